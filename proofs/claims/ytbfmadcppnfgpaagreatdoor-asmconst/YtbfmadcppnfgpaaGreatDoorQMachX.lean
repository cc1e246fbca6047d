/-
  Package machine (layer 4): the contract of do.
-/
import Derived.Test.YtbfmadcppnfgpaaGreatDoorQMachH
namespace Go.Proofs.YtbfmadcppnfgpaaGreatDoor.Q
open Go.ChangeShapes Go.WideShapes Go.ChangeAt Go.RowKit

theorem callFunc_act (o : Nat) (ho : o < 15) (args : Array Value) (w : World) : (callFunc (57 + o) args).run Tryz.prog w = .ok (.enter (57 + o) args) w := by
  match o, ho with
  | 0, _ => go_simp
  | 1, _ => go_simp
  | 2, _ => go_simp
  | 3, _ => go_simp
  | 4, _ => go_simp
  | 5, _ => go_simp
  | 6, _ => go_simp
  | 7, _ => go_simp
  | 8, _ => go_simp
  | 9, _ => go_simp
  | 10, _ => go_simp
  | 11, _ => go_simp
  | 12, _ => go_simp
  | 13, _ => go_simp
  | 14, _ => go_simp
  | n + 15, h => exact absurd h (by omega)
theorem do_code {w : World} {F D : Nat → Prop} {B Q R : Nat} {cv nv ov : Value} {l : List Ins} {s : MS} {p q : Int} (m : Mach w F D B Q R cv nv ov l s p q) (h : s.place < 0 ∨ l.length ≤ s.place) :
    Calls Tryz.prog 36 #[ptr B] w fun e w' => e = two (s, 0, 11) ∧ Moves F w w' ∧ Mach w' F D B Q R cv nv ov l s p q := by
  have kp := m.cp
  have k0 := m.c0
  have mN : ∀ n, Mach (w.drewN n) F D B Q R cv nv ov l s p q := fun n => m.keep (fun _ _ => rfl) (Nat.le_refl _)
  have MN : ∀ n, Moves F w (w.drewN n) := fun n => ⟨rfl, rfl, rfl, Nat.le_refl _, fun _ _ _ => rfl⟩
  obtain ⟨sp, cap, e0, _⟩ := m.code
  rw [e0] at k0
  generalize l.length = n at *
  generalize s.place = pl at *
  by_cases h0 : pl < 0
  · have e1 : decide (pl < 0) = true := by simpa using h0
    go_enter Tryz.func36, Tryz.ntmps36
    go_wp2
    go_quiet (fail)
    go_wp2
    go_ret2
    exact ⟨rfl, MN _, mN _⟩
  · have e1 : decide (pl < 0) = false := by simpa using h0
    have h2 : (n : Int) ≤ pl := by omega
    go_enter Tryz.func36, Tryz.ntmps36
    go_wp2
    go_quiet (fail)
    go_wp2
    go_ret2
    exact ⟨rfl, MN _, mN _⟩

set_option maxHeartbeats 1000000 in
theorem do_is {w : World} {F D : Nat → Prop} {B Q R : Nat} {cv nv ov : Value} {l : List Ins} {s : MS} {p q : Int} (m : Mach w F D B Q R cv nv ov l s p q) (k o a b c : Nat) (i : Int) (hk : s.place = k) (hlt : k < l.length) (hx : l[k] = ⟨o, a, b, c, i⟩)
    (ho : o < 15) (ha : a < 16) (hb : b < 16) (hc : c < 16) (h3 : s.out.length ≤ 10000000) :
    Calls Tryz.prog 36 #[ptr B] w fun e w' => e = two (act o a b c i s) ∧ Ans w F B l (act o a b c i s).1 w' := by
  have kp := m.cp
  have k0 := m.c0
  obtain ⟨sp, cap, e0, hat⟩ := m.code
  obtain ⟨blk, off, rfl, hD, hins⟩ := hat (by omega)
  have hi := hins k hlt
  rw [hx] at hi
  obtain ⟨i0, i1, i2, i3, i4⟩ := hi
  have hao := actionOf_any o ho
  have hcf := callFunc_act o ho
  have hcp := m.len
  have hall := fun (w2 : World) (m2 : Mach w2 F D B Q R cv nv ov l s p q) => act_any m2 o a b c i ho ha hb hc (by omega) (by omega) h3
  generalize act o a b c i s = r at *
  rw [e0] at k0
  rw [hk] at kp
  have hcap := m.len
  clear hins hx hat
  simp only at i0 i1 i2 i3 i4
  generalize hn : l.length = n at *
  have e1 : decide ((k : Int) < 0) = false := by simp
  have e2 : ((n : Int) ≤ k) = False := by simp; omega
  go_enter Tryz.func36, Tryz.ntmps36
  go_wp2
  go_quiet (fail)
  have m1 : Mach (w.drewN nq) F D B Q R cv nv ov l s p q := m.keep (fun _ _ => rfl) (Nat.le_refl _)
  have M1 : Moves F w (w.drewN nq) := ⟨rfl, rfl, rfl, Nat.le_refl _, fun _ _ _ => rfl⟩
  replace kp : (w.drewN nq).cell? ⟨B, 18, none⟩ = some (iv k) := kp
  replace k0 : (w.drewN nq).cell? ⟨B, 0, none⟩ = some (.slice (some ⟨blk, off, none⟩) n cap) := k0
  replace i0 : (w.drewN nq).cell? ⟨blk, off + k * 5, none⟩ = some (iv o) := i0
  replace i1 : (w.drewN nq).cell? ⟨blk, off + k * 5 + 1, none⟩ = some (iv a) := i1
  replace i2 : (w.drewN nq).cell? ⟨blk, off + k * 5 + 2, none⟩ = some (iv b) := i2
  replace i3 : (w.drewN nq).cell? ⟨blk, off + k * 5 + 3, none⟩ = some (iv c) := i3
  replace i4 : (w.drewN nq).cell? ⟨blk, off + k * 5 + 4, none⟩ = some (iv i) := i4
  clear m
  generalize w.drewN nq = w1 at *
  have hbl := bx_below w1 o a b c i
  have hz : Below w1.heap.size w1 (w1.alloc (.cells #[iv 0, iv 0, iv 0, iv 0, iv 0] 31)) := (Below.refl _ w1).alloc (Nat.le_refl _) _
  have lB := m1.lt _ m1.fB
  have lK := m1.lt _ (m1.fD _ hD).1
  have zp := (hz.cell (p := ⟨B, 18, none⟩) lB).trans kp
  have z0 := (hz.cell (p := ⟨B, 0, none⟩) lB).trans k0
  have j0 := (hz.cell (p := ⟨blk, off + k * 5, none⟩) lK).trans i0
  have j1 := (hz.cell (p := ⟨blk, off + k * 5 + 1, none⟩) lK).trans i1
  have j2 := (hz.cell (p := ⟨blk, off + k * 5 + 2, none⟩) lK).trans i2
  have j3 := (hz.cell (p := ⟨blk, off + k * 5 + 3, none⟩) lK).trans i3
  have j4 := (hz.cell (p := ⟨blk, off + k * 5 + 4, none⟩) lK).trans i4
  have hact := hall _ (m1.below hbl).drew.drew
  have M2 := M1.on ((Moves.ofBelow (F := F) hbl).drew).drew
  clear hall hz
  go_wp2
  go_region
  all_goals go_wp2
  go_region_with (first | (go_at_call 48; refine (hao _).mono ?_; rintro e w2 ⟨rfl, rfl⟩) | (refine hact.mono ?_; rintro e w3 ⟨rfl, hans⟩))
  all_goals go_wp2
  all_goals go_ret2
  all_goals exact ⟨rfl, Ans.next M2 (fun _ h => .inl h) hans⟩
end Go.Proofs.YtbfmadcppnfgpaaGreatDoor.Q
