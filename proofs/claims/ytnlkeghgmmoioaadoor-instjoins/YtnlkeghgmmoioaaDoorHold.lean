/-
  Contracts of hold and Right of package inst (layer 2), by walks over the translation.
-/
import Derived.Test.YtnlkeghgmmoioaaDoorBase
import Derived.Deep.RegionWith
import Derived.Deep.QuietTactic
import Derived.BigQuiet
namespace Go.Proofs.YtnlkeghgmmoioaaDoor
open Go.ChangeShapes Go.WideShapes Go.ChangeAt Go.RowKit


theorem bcell {W w1 : World} (hb : Below W.heap.size W w1) : (∀ b o, b < W.heap.size → w1.cell? ⟨b, o, none⟩ = W.cell? ⟨b, o, none⟩) ∧ (∀ b o, b < W.heap.size → w1.frozen? ⟨b, o, none⟩ = W.frozen? ⟨b, o, none⟩) :=
  ⟨fun b o h => hb.cell (p := ⟨b, o, none⟩) h, fun b o h => hb.frozen (p := ⟨b, o, none⟩) h⟩

theorem hold_any (fa fb fc : Bool) (fi o a b c i : Int) (hk : fi = 0 ∨ fi = 1 ∨ fi = 2 ∨ fi = 3) (w : World) :
    Calls Tryd.prog 32 #[.agg #[.bool fa, .bool fb, .bool fc, .int .i64 fi], .agg #[.int .i64 o, .int .i64 a, .int .i64 b, .int .i64 c, .int .i64 i]] w fun e w' => e = .returned (.bool (regB a fa && regB b fb && regB c fc && immB i fi)) ∧ Below w.heap.size w w' := by
  have HK : Hid (fi = 0 ∨ fi = 1 ∨ fi = 2 ∨ fi = 3) := hk
  clear hk
  cases h1 : regB a fa
  · go_enter Tryd.func32, Tryd.ntmps32
    go_wp2_with fail
    refine (register_any _ _ _).mono ?_; rintro e w' ⟨rfl, rfl⟩
    go_wp2_with fail
    go_ret
    exact ⟨ret_bool (by simp), ((Below.refl _ _).alloc (Nat.le_refl _) _).alloc (by simp) _⟩
  cases h2 : regB b fb
  · go_enter Tryd.func32, Tryd.ntmps32
    go_wp2_with fail
    refine (register_any _ _ _).mono ?_; rintro e w' ⟨rfl, rfl⟩
    go_wp2_with fail
    refine (register_any _ _ _).mono ?_; rintro e w' ⟨rfl, rfl⟩
    go_wp2_with fail
    go_ret
    exact ⟨ret_bool (by simp), ((Below.refl _ _).alloc (Nat.le_refl _) _).alloc (by simp) _⟩
  cases h3 : regB c fc
  · go_enter Tryd.func32, Tryd.ntmps32
    go_wp2_with fail
    refine (register_any _ _ _).mono ?_; rintro e w' ⟨rfl, rfl⟩
    go_wp2_with fail
    refine (register_any _ _ _).mono ?_; rintro e w' ⟨rfl, rfl⟩
    go_wp2_with fail
    refine (register_any _ _ _).mono ?_; rintro e w' ⟨rfl, rfl⟩
    go_wp2_with fail
    go_ret
    exact ⟨ret_bool (by simp), ((Below.refl _ _).alloc (Nat.le_refl _) _).alloc (by simp) _⟩
  · go_enter Tryd.func32, Tryd.ntmps32
    go_wp2_with fail
    refine (register_any _ _ _).mono ?_; rintro e w' ⟨rfl, rfl⟩
    go_wp2_with fail
    refine (register_any _ _ _).mono ?_; rintro e w' ⟨rfl, rfl⟩
    go_wp2_with fail
    refine (register_any _ _ _).mono ?_; rintro e w' ⟨rfl, rfl⟩
    go_wp2_with fail
    refine (immediate_any _ _ HK.out _).mono ?_; rintro e w' ⟨rfl, rfl⟩
    go_wp2_with fail
    go_ret
    exact ⟨ret_bool (by simp), ((Below.refl _ _).alloc (Nat.le_refl _) _).alloc (by simp) _⟩

/-- What makes an instruction right. -/
def holdB (o a b c i : Int) : Bool := regB a (fA o) && regB b (fB o) && regB c (fC o) && immB i (fI o)
def rightB (o a b c i : Int) : Bool := fK o && holdB o a b c i

theorem hold_of (o a b c i : Int) (w : World) :
    Calls Tryd.prog 32 #[.agg #[.bool (fA o), .bool (fB o), .bool (fC o), .int .i64 (fI o)], .agg #[.int .i64 o, .int .i64 a, .int .i64 b, .int .i64 c, .int .i64 i]] w fun e w' => e = .returned (.bool (holdB o a b c i)) ∧ Below w.heap.size w w' :=
  hold_any _ _ _ _ o a b c i (fI_range o) w


theorem bel_box {w w1 : World} {X : Obj} (h : Below (w.alloc X).heap.size (w.alloc X) w1) : Below w.heap.size w w1 ∧ w.heap.size < w1.heap.size :=
  ⟨((Below.refl _ _).alloc (Nat.le_refl _) _).trans (h.mono (by simp)), by have := h.size; simp at this; omega⟩
theorem bel_next {w w1 w2 : World} {X : Obj} (h1 : Below w.heap.size w w1) (h : Below (w1.alloc X).heap.size (w1.alloc X) w2) : Below w.heap.size w w2 ∧ w1.heap.size < w2.heap.size :=
  ⟨(h1.alloc h1.size _).trans (h.mono (by have := h1.size; simp; omega)), by have := h.size; simp at this; omega⟩
theorem bel_on {w w1 w2 : World} (h1 : Below w.heap.size w w1) (h : Below w1.heap.size w1 w2) : Below w.heap.size w w2 ∧ w1.heap.size ≤ w2.heap.size :=
  ⟨h1.trans (h.mono h1.size), h.size⟩

theorem right_any (o a b c i : Int) (w : World) :
    Calls Tryd.prog 16 #[.agg #[.int .i64 o, .int .i64 a, .int .i64 b, .int .i64 c, .int .i64 i]] w fun e w' => e = .returned (.bool (rightB o a b c i)) ∧ Below w.heap.size w w' := by
  cases hk : fK o
  · go_enter Tryd.func16, Tryd.ntmps16
    go_wp2_with fail
    refine (fieldsOf_any _ _).mono ?_; rintro e w1 ⟨rfl, hb⟩
    obtain ⟨hc, hf⟩ := bcell hb
    obtain ⟨hB, hz⟩ := bel_box hb
    go_wp2_with fail
    go_ret
    exact ⟨ret_bool (by unfold rightB; rw [hk]; rfl), hB.alloc hB.size _⟩
  · go_enter Tryd.func16, Tryd.ntmps16
    go_wp2_with fail
    refine (fieldsOf_any _ _).mono ?_; rintro e w1 ⟨rfl, hb⟩
    obtain ⟨hc, hf⟩ := bcell hb
    obtain ⟨hB, hz⟩ := bel_box hb
    go_wp2_with fail
    refine (hold_of _ _ _ _ _ _).mono ?_; rintro e w2 ⟨rfl, hb2⟩
    go_wp2_with fail
    go_ret
    exact ⟨ret_bool (by unfold rightB; rw [hk]; rfl), (bel_next hB hb2).1⟩

end Go.Proofs.YtnlkeghgmmoioaaDoor
