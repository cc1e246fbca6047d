/-
  Package machine (layer 4): the contract of lih.
-/
import Derived.Test.YthokpdalojfmiaaMachD
import Derived.Deep.RegionWith
namespace Go.Proofs.Ythokpdalojfmiaa
open Go.ChangeShapes Go.WideShapes Go.ChangeAt Go.RowKit


/-- The low half of a word put below what was. -/
def high (u i : Int) : Int := bits .or .i64 (IntKind.i64.wrap (u * 4294967296)) (wrapM 4294967296 i false)
set_option maxHeartbeats 6000000 in
theorem lih_any {w : World} {F D : Nat → Prop} {B Q R : Nat} {cv nv ov : Value} {l : List Ins} {s : MS} {p q : Int} (m : Mach w F D B Q R cv nv ov l s p q) (o : Int) (a b c : Nat) (i : Int) (ha : a < 16) (h1 : 0 ≤ s.place) (h2 : s.place < 1048576) :
    Calls Try.prog 36 #[ptr B, av o a b c i] w fun e w' => e = two (s.put a (high (s.r a) i)) ∧ Moves F w w' ∧ Mach w' F D B Q R cv nv ov l (s.put a (high (s.r a) i)).1 p q := by
  have hbl := bx_below w o a b c i
  have m1 := (m.below hbl).drew
  have M1 := (Moves.ofBelow (F := F) hbl).drew
  have ka := m1.cr a ha
  rw [r_eq] at ka
  have e0 : ((a : Int) < 16) = True := by simp; omega
  have hw := wrap_32 i false (bx w o a b c i).drew
  have hh : high (s.r a) i = bits .or .i64 (IntKind.i64.wrap (s.r a * 4294967296)) (wrapM 4294967296 i false) := rfl
  rw [hh]
  clear hh
  generalize s.r a = u at *
  generalize wrapM 4294967296 i false = x at *
  have hs := fun v => set_any m1 a ha v h1 h2
  go_enter Try.func36, Try.ntmps36
  go_wp2
  go_region_with (first | (go_at_call 50; refine hw.mono ?_; rintro e w2 ⟨rfl, rfl⟩) | (go_at_call 49; refine (hs _).mono ?_; rintro e w3 ⟨rfl, t3, m3⟩))
  all_goals go_wp2
  all_goals go_ret2
  all_goals exact ⟨rfl, M1.on t3, m3⟩

end Go.Proofs.Ythokpdalojfmiaa
