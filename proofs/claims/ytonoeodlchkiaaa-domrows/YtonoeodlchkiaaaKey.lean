/-
  The keys of a set of blocks, sorted (layer 7): what slices.Sorted of maps.Keys answers.
-/
import Derived.Test.YtonoeodlchkiaaaFrP
import Derived.Test.YtonoeodlchkiaaaShelf
import Derived.Deep.AppendLies
namespace Go.Proofs.Ytonoeodlchkiaaa
open Go.ChangeShapes Go.WideShapes Go.ChangeAt Go.RowKit Go.Shelf Go.Maps Go.Sort

theorem sortsA (m : Nat) : AnyZI.SortsIn Try.prog Try.sortedA_ren Fence.wide m :=
  ⟨fun blk off cap ss W hH hblk hsz => callsIn_wide.2 (Try.slices_Sort_int blk off cap ss W hH hblk hsz),
   fun p cap W => callsIn_wide.2 (Try.slices_Sort_int_none p cap W)⟩

/-- Numbers, rising. -/
def risen (l : List Nat) : List Nat := l.mergeSort fun x y => decide (x ≤ y)
theorem risen_len (l : List Nat) : (risen l).length = l.length := List.length_mergeSort _
theorem risen_mem (l : List Nat) (a : Nat) : a ∈ risen l ↔ a ∈ l := List.mem_mergeSort
theorem risen_lt {l : List Nat} (h : l.Nodup) : (risen l).Pairwise (· < ·) := by
  have h1 : (risen l).Pairwise (fun x y => decide (x ≤ y) = true) := List.pairwise_mergeSort (fun a b c h1 h2 => by simp at *; omega) (fun a b => by simp; omega) l
  have h2 : (risen l).Nodup := (List.mergeSort_perm l _).nodup_iff.2 h
  exact (h1.and h2).imp fun {a b} ⟨h3, h4⟩ => by simp at h3; omega
theorem risen_cast (l : List Nat) : (l.map (fun x : Nat => (x : Int))).mergeSort (fun x y => decide (x ≤ y)) = (risen l).map (fun x : Nat => (x : Int)) := by
  have hp : ((l.map (fun x : Nat => (x : Int))).mergeSort (fun x y => decide (x ≤ y))).Perm ((risen l).map (fun x : Nat => (x : Int))) :=
    (List.mergeSort_perm _ _).trans ((List.mergeSort_perm l _).symm.map _)
  have h1 : ((l.map (fun x : Nat => (x : Int))).mergeSort (fun x y => decide (x ≤ y))).Pairwise (fun x y => x ≤ y) := (List.pairwise_mergeSort (le := fun x y : Int => decide (x ≤ y)) (fun a b c h1 h2 => by simp at *; omega) (fun a b => by simp; omega) _).imp fun {a b} h => by simpa using h
  have h2 : ((risen l).map (fun x : Nat => (x : Int))).Pairwise (fun x y => x ≤ y) := by
    rw [List.pairwise_map]
    exact (List.pairwise_mergeSort (le := fun x y : Nat => decide (x ≤ y)) (fun a b c h1 h2 => by simp at *; omega) (fun a b => by simp; omega) l).imp fun {a b} h => by simp at h; omega
  exact hp.eq_of_pairwise (fun a b _ _ h1 h2 => by omega) h1 h2

theorem keysOf_any (m : Option Nat) (W : World) : Calls Try.prog 40 #[.map m] W fun e w' => e = .returned (.func (.func 54) #[] #[.pointer (some ⟨W.heap.size, 0, none⟩)]) ∧ w' = W.alloc (.cells #[.map m] 51) :=
  (callsIn_wide (n := 5)).1 (AnyZI.keys_in Try.keysA Fence.wide 5 trivial rfl m W)

set_option maxHeartbeats 1000000 in
theorem sorted_any (mb : Nat) (l : List Nat) (w : World) (hm : SetMap w mb l) :
    Calls Try.prog 39 #[.func (.func 54) #[] #[.pointer (some ⟨w.heap.size, 0, none⟩)]] (w.alloc (.cells #[.map (some mb)] 51)) fun e w' => ∃ v : Value, e = .returned v ∧
      w'.ownsRow (w.heap.size + 1) 3 1 v (risen l).length (intsV (risen l)) ∧ Below (w.heap.size + 1) (w.alloc (.cells #[.map (some mb)] 51)) w' := by
  obtain ⟨D0, hown, hh, hs, hnd, hle⟩ := hm
  have hlen : l.length ≤ 4097 := by
    have h2 := hnd.length_le_of_subset (l₂ := List.range 4097) (fun x hx => List.mem_range.2 (by have := hle x hx; omega))
    rwa [List.length_range] at h2
  have hbl := hown.lt
  have hseq : SeqGives Fence.wide 2 Try.prog 54 #[.pointer (some ⟨w.heap.size, 0, none⟩)] encZ (fun ss => ss.Perm (intKeys D0)) (Maps.size D0) (w.alloc (.cells #[.map (some mb)] 51)) :=
    AnyZI.keys_gives (ρ := Try.keysA_ren) { Try.keysA with } Fence.wide _ trivial rfl (by omega) w.heap.size mb l.length D0 _ (by simp) (by simp) (by
      obtain ⟨es', clock, hb, Ft, hs', hD⟩ := hown
      exact ⟨es', clock, (Below.heap_alloc _ _ mb hbl).trans hb, Ft, hs', hD⟩)
  have cS := AnyZI.sorted_in Try.sortedA Fence.wide 5 trivial trivial trivial trivial rfl (by omega) (sortsA _) (enters_of Try.func53 (by kernel_rfl) rfl) 54 #[.pointer (some ⟨w.heap.size, 0, none⟩)] trivial (enters_of Try.func54 (by kernel_rfl) rfl) _ _ (by rw [hs]; unfold maxLen; omega) (by rw [hs]; omega) _ hseq
  change CallsIn _ _ Try.prog 39 _ _ _ at cS
  have hnd2 : (l.map (fun x : Nat => (x : Int))).Nodup := by
    unfold List.Nodup at *
    rw [List.pairwise_map]
    exact hnd.imp fun h e => h (Int.ofNat.inj e)
  have hc : (l.map (fun x : Nat => (x : Int))).Perm (intKeys D0) := CollectedI.perm (left := fun _ => false) ⟨hnd2, fun x => by rw [hh]; simp⟩ hown law3 Try.underlying3 (fun _ => rfl)
  refine ((callsIn_wide (n := 5)).1 cS).mono ?_
  rintro e w' ⟨v, ss, rfl, hS, hrow, _, hb⟩
  have hp := hS.trans hc.symm
  refine ⟨v, rfl, ?_, ?_⟩
  · rw [hp.length_eq, List.length_map, ← risen_len] at hrow
    have e1 : ss.mergeSort (fun x y => decide (x ≤ y)) = (l.map (fun x : Nat => (x : Int))).mergeSort (fun x y => decide (x ≤ y)) := mergeSort_of_perm_i hp
    rw [e1, World.size_alloc, risen_cast, List.map_map] at hrow
    exact hrow
  · rw [World.size_alloc] at hb; exact hb
set_option maxHeartbeats 1000000 in
theorem sorted_none (w : World) :
    Calls Try.prog 39 #[.func (.func 54) #[] #[.pointer (some ⟨w.heap.size, 0, none⟩)]] (w.alloc (.cells #[.map none] 51)) fun e w' => ∃ v : Value, e = .returned v ∧
      w'.ownsRow (w.heap.size + 1) 3 1 v 0 [] ∧ Below (w.heap.size + 1) (w.alloc (.cells #[.map none] 51)) w' := by
  have hseq : SeqGives Fence.wide 2 Try.prog 54 #[.pointer (some ⟨w.heap.size, 0, none⟩)] encZ (fun ss : List Int => ss = []) 0 (w.alloc (.cells #[.map none] 51)) :=
    AnyZI.keys_gives_nil (ρ := Try.keysA_ren) { Try.keysA with } Fence.wide _ trivial rfl w.heap.size _ (by simp) (by simp)
  have cS := AnyZI.sorted_in Try.sortedA Fence.wide 5 trivial trivial trivial trivial rfl (by omega) (sortsA _) (enters_of Try.func53 (by kernel_rfl) rfl) 54 #[.pointer (some ⟨w.heap.size, 0, none⟩)] trivial (enters_of Try.func54 (by kernel_rfl) rfl) _ _ (by unfold maxLen; omega) (by omega) _ hseq
  change CallsIn _ _ Try.prog 39 _ _ _ at cS
  refine ((callsIn_wide (n := 5)).1 cS).mono ?_
  rintro e w' ⟨v, ss, rfl, rfl, hrow, _, hb⟩
  refine ⟨v, rfl, ?_, ?_⟩
  · rw [World.size_alloc] at hrow
    simp at hrow
    exact hrow
  · rw [World.size_alloc] at hb; exact hb

end Go.Proofs.Ytonoeodlchkiaaa
