/-
  Package machine (layer 4): the contract of lih.
-/
import Derived.Test.YtbfmadcppnfgpaaGreatDoorQMachD
import Derived.Test.YtbfmadcppnfgpaaGreatDoorQCut
namespace Go.Proofs.YtbfmadcppnfgpaaGreatDoor.Q
open Go.ChangeShapes Go.WideShapes Go.ChangeAt Go.RowKit

/-- The low half of a word put below what was. -/
def high (u i : Int) : Int := bits .or .i64 (wrap64 (u * 4294967296)) (wrapM 4294967296 i false)
set_option maxRecDepth 100000 in
set_option maxHeartbeats 1000000 in
theorem lih_any {w : World} {F D : Nat → Prop} {B Q R : Nat} {cv nv ov : Value} {l : List Ins} {s : MS} {p q : Int} (m : Mach w F D B Q R cv nv ov l s p q) (o : Int) (a b c : Nat) (i : Int) (ha : a < 16) (h1 : 0 ≤ s.place) (h2 : s.place < 1048576) :
    Calls Tryz.prog 59 #[ptr B, av o a b c i] w fun e w' => e = two (s.put a (high (s.r a) i)) ∧ Moves F w w' ∧ Mach w' F D B Q R cv nv ov l (s.put a (high (s.r a) i)).1 p q := by
  have hbl := bx_below w o a b c i
  have m0 := m.below hbl
  have M0 := Moves.ofBelow (F := F) hbl
  have ka := m0.cr a ha
  rw [r_eq] at ka
  have e0 : ((a : Int) < 16) = True := by simp; omega
  have hw := wrap_32 i false
  have hh : high (s.r a) i = bits .or .i64 (wrap64 (s.r a * 4294967296)) (wrapM 4294967296 i false) := rfl
  rw [hh]
  clear hh
  generalize s.r a = u at *
  generalize wrapM 4294967296 i false = x at *
  go_enter Tryz.func59, Tryz.ntmps59
  go_wp2
  refine wp_region_cut (pre := [_, _, _, _, _, _, _, _, _, _, _, _, _, _, _]) (c := _) (suf := [_, _, _, _]) rfl (by kernel_rfl) (by kernel_rfl) (by kernel_rfl) (by kernel_rfl) (by kernel_rfl) ?_
  repeat (go_big_quiet_step ((go_at_call 85; exact Calls.quiet_of_same (hw _))))
  refine wpQuiet_nil ?_
  rintro w1 ⟨nq, rfl⟩
  go_simp
  have mN := m0.keep (w' := (bx w o a b c i).drewN nq) (fun _ _ => rfl) (Nat.le_refl _)
  have MN : Moves F w ((bx w o a b c i).drewN nq) := ⟨M0.os, M0.tape, M0.output, M0.size, M0.block⟩
  refine (set_any mN a ha _ h1 h2).mono ?_; rintro e w3 ⟨rfl, t3, m3⟩
  have MM := MN.on t3
  simp only []
  repeat (go_big_quiet_step (fail))
  refine wpQuiet_nil ?_
  intro n4
  have m4 := m3.keep (w' := w3.drewN n4) (fun _ _ => rfl) (Nat.le_refl _)
  have M4 : Moves F w (w3.drewN n4) := ⟨MM.os, MM.tape, MM.output, MM.size, MM.block⟩
  go_wp2
  go_ret2
  exact ⟨rfl, M4, m4⟩

end Go.Proofs.YtbfmadcppnfgpaaGreatDoor.Q
