/-
  What dom's own and the document's tell of no row (layer 7).
-/
import Derived.Test.YtonoeodlchkiaaaRId
import Derived.Test.YtonoeodlchkiaaaRDm
import Derived.Test.YtonoeodlchkiaaaRKd
namespace Go.Proofs.Ytonoeodlchkiaaa
open Go.ChangeShapes Go.WideShapes Go.ChangeAt Go.RowKit Go.Shelf

attribute [local go_sem] Oper.semAt_some

set_option maxRecDepth 100000 in
theorem isBlock_no (x : Int) (w : World) : Calls Try.prog 34 #[.slice none 0 0, .int .i64 x] w fun e w' => e = .returned (.bool false) ∧ w' = w := by
  by_cases h1 : 0 ≤ x
  · have e1 : ((0 : Int) ≤ x) = True := eq_true h1
    have e2 : (x < 0) = False := eq_false (by omega)
    clear h1
    go_enter Try.func34, Try.ntmps34
    go_wp2
    go_ret
    exact ⟨rfl, rfl⟩
  · have e1 : ((0 : Int) ≤ x) = False := eq_false h1
    clear h1
    go_enter Try.func34, Try.ntmps34
    go_wp2
    go_ret
    exact ⟨rfl, rfl⟩
set_option maxRecDepth 100000 in
theorem isReached_no (x : Int) (w : World) : Calls Try.prog 28 #[.slice none 0 0, .int .i64 x] w fun e w' => e = .returned (.bool false) ∧ w' = w := by
  have hb := isBlock_no x w
  go_enter Try.func28, Try.ntmps28
  go_wp2_with fail
  refine hb.mono ?_
  rintro e w' ⟨rfl, rfl⟩
  go_wp2
  go_ret
  exact ⟨rfl, rfl⟩
set_option maxRecDepth 100000 in
theorem dominates_no (a b : Int) (w : World) : Calls Try.prog 10 #[.slice none 0 0, .int .i64 a, .int .i64 b] w fun e w' => e = .returned (.bool false) ∧ Below w.heap.size w w' := by
  refine (callsIn_wide (n := 0)).1 ?_
  refine callsIn_of_wp_marks Try.func10 rfl trivial ?_
  simp only [Try.ntmps10, List.size_toArray, List.length_cons, List.length_nil, Nat.reduceAdd, Nat.reduceSub, Array.replicate_succ, Array.replicate_zero, List.push_toArray, List.append_toArray, List.nil_append, List.cons_append]
  gi_wp2
  generalize hW : (w.alloc (.cells #[.int .i64 a] 3)).alloc (.cells #[.bool false] 4) = W2
  have kk : Below w.heap.size w W2 ∧ W2.heap.size = w.heap.size + 2 ∧ W2.heap[w.heap.size]? = some (.cells #[.int .i64 a] 3 (0, 0)) ∧ W2.heap[w.heap.size + 1]? = some (.cells #[.bool false] 4 (0, 0)) := by
    rw [← hW]
    refine ⟨((Below.refl _ w).alloc (Nat.le_refl _) _).alloc (by simp) _, by simp, (Below.heap_alloc _ _ _ (by simp)).trans (World.alloc_heap_new w _), ?_⟩
    have := World.alloc_heap_new (w.alloc (.cells #[.int .i64 a] 3)) (.cells #[.bool false] 4)
    rwa [World.size_alloc] at this
  obtain ⟨hB2, hs2, k0, k1⟩ := kk
  clear hW
  have c0 : W2.cell? ⟨w.heap.size, 0, none⟩ = some (.int .i64 a) := cell_of k0 0
  have c1 : W2.cell? ⟨w.heap.size + 1, 0, none⟩ = some (.bool false) := cell_of k1 0
  have f1 := frozen_of k1 0
  have cs : (W2.setCell ⟨w.heap.size + 1, 0, none⟩ (.bool false)).cell? ⟨w.heap.size + 1, 0, none⟩ = some (.bool false) := World.cell?_setCell_same _ _ _ c1
  refine ⟨by trivial, by trivial, (callsIn_wide.2 (isReached_no a W2)).mono ?_⟩
  rintro e W ⟨rfl, rfl⟩
  gi_wp2
  refine ⟨by trivial, ?_⟩
  gi_wp2
  exact ⟨.bool false, by simp [results, Try.results10, go_sem, cs], rfl, hB2.setCell (p := ⟨w.heap.size + 1, 0, none⟩) (by show _ ≤ _ + 1; omega) _⟩
set_option maxRecDepth 100000 in
theorem counts_no (x : Int) (w : World) : Calls Try.prog 30 #[.slice none 0 0, .int .i64 x] w fun e w' => e = .returned (.bool false) ∧ w' = w := by
  by_cases h1 : 0 ≤ x
  · have e1 : ((0 : Int) ≤ x) = True := eq_true h1
    have e2 : (x < 0) = False := eq_false (by omega)
    clear h1
    go_enter Try.func30, Try.ntmps30
    go_wp2
    go_ret
    exact ⟨rfl, rfl⟩
  · have e1 : ((0 : Int) ≤ x) = False := eq_false h1
    clear h1
    go_enter Try.func30, Try.ntmps30
    go_wp2
    go_ret
    exact ⟨rfl, rfl⟩
set_option maxRecDepth 100000 in
theorem rdominates_no (a b : Int) (w : World) : Calls Try.prog 11 #[.slice none 0 0, .int .i64 a, .int .i64 b] w fun e w' => e = .returned (.bool false) ∧ w' = w := by
  have hb := counts_no a w
  go_enter Try.func11, Try.ntmps11
  go_wp2_with fail
  refine hb.mono ?_
  rintro e w' ⟨rfl, rfl⟩
  go_wp2
  go_ret
  exact ⟨rfl, rfl⟩
theorem make_no (w : World) : (Instr.makeSlice 22 (.int .i64 0) (.int .i64 0)).run Try.prog w = .ok (.slice (some ⟨w.heap.size, 0, none⟩) 0 0) (w.alloc (.cells #[] 25)) := by
  have := make_rows 0 (by omega) w
  simpa using this
set_option maxRecDepth 100000 in
theorem kids_no (w : World) : Calls Try.prog 14 #[.slice none 0 0] w fun e w' => (∃ av cap, e = .returned (.slice av 0 cap)) ∧ Below w.heap.size w w' := by
  have mk := make_no w
  have HB := hide (bel_new w (.cells #[] 25))
  go_enter Try.func14, Try.ntmps14
  go_wp2
  clear mk
  have hb := HB.out
  generalize w.alloc (.cells #[] 25) = w2 at *
  go_loopw [11] (fun i W => i = .int .i64 0 ∧ W = w2) (fun _ _ => 0)
  case atStart => exact ⟨rfl, rfl⟩
  case round =>
    obtain ⟨rfl, rfl⟩ := hrel
    go_wp2
    go_ret
    exact ⟨⟨_, _, rfl⟩, hb⟩
set_option maxRecDepth 100000 in
theorem rkids_no (w : World) : Calls Try.prog 15 #[.slice none 0 0] w fun e w' => (∃ av cap, e = .returned (.slice av 0 cap)) ∧ Below w.heap.size w w' := by
  have mk := make_no w
  have HB := hide (bel_new w (.cells #[] 25))
  go_enter Try.func15, Try.ntmps15
  go_wp2
  clear mk
  have hb := HB.out
  generalize w.alloc (.cells #[] 25) = w2 at *
  go_loopw [4] (fun i W => i = .int .i64 0 ∧ W = w2) (fun _ _ => 0)
  case atStart => exact ⟨rfl, rfl⟩
  case round =>
    obtain ⟨rfl, rfl⟩ := hrel
    go_wp2
    go_ret
    exact ⟨⟨_, _, rfl⟩, hb⟩
set_option maxRecDepth 100000 in
theorem depth_no (w : World) : Calls Try.prog 17 #[.slice none 0 0] w fun e w' => (∃ av cap, e = .returned (.slice av 0 cap)) ∧ Below w.heap.size w w' := by
  go_enter Try.func17, Try.ntmps17
  go_wp2
  go_ret
  exact ⟨⟨_, _, rfl⟩, Below.refl _ _⟩
set_option maxRecDepth 100000 in
theorem rdepth_no (w : World) : Calls Try.prog 18 #[.slice none 0 0] w fun e w' => (∃ av cap, e = .returned (.slice av 0 cap)) ∧ Below w.heap.size w w' := by
  go_enter Try.func18, Try.ntmps18
  go_wp2
  go_loopw [4, 3] (fun i v W => i = .int .i64 0 ∧ v = .slice none 0 0 ∧ W = w) (fun _ _ _ => 0)
  case atStart => exact ⟨rfl, rfl, rfl⟩
  case round =>
    obtain ⟨rfl, rfl, rfl⟩ := hrel
    go_wp2
    go_ret
    exact ⟨⟨_, _, rfl⟩, Below.refl _ _⟩
set_option maxRecDepth 100000 in
theorem ridom_no (av : Option Addr) (cap blk off : Nat) (hd : Nat → Hdr) (g : List (List Int)) (hl : g.length ≤ 40) (hl2 : ∀ b, (g.getD b []).length ≤ 20) (hno : ¬ RightI g) (w : World) (hG : GAt w av blk off hd g) :
    Calls Try.prog 12 #[.slice av g.length cap] w fun e w' => e = .returned (.slice none 0 0) ∧ w' = w := by
  have hr := rright_is av cap blk off hd g hl hl2 w hG
  rw [rightB_false hno] at hr
  clear hG
  go_enter Try.func12, Try.ntmps12
  go_wp2_with fail
  refine hr.mono ?_
  rintro e w1 ⟨rfl, rfl⟩
  go_wp2
  go_ret
  exact ⟨rfl, rfl⟩

end Go.Proofs.Ytonoeodlchkiaaa
