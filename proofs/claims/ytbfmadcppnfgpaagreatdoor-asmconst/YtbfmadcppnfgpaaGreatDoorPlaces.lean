/-
  Places of package asm (layer 5): its contract.
-/
import Derived.Test.YtbfmadcppnfgpaaGreatDoorKeys
import Derived.Test.YtbfmadcppnfgpaaGreatDoorAsm
namespace Go.Proofs.YtbfmadcppnfgpaaGreatDoor
open Go.ChangeShapes Go.WideShapes Go.ChangeAt Go.RowKit Go.Maps

/-- The labels of lines, rising, each with its place. -/
def placesL (ls : List Ln) : List (Int × Int) := (rising (labs ls)).map fun t => (t, placeOf (tab ls ls.length) t)
theorem placesL_len (ls : List Ln) : (placesL ls).length = (tab ls ls.length).length := by
  unfold placesL labs; rw [List.length_map, rising_len, List.length_map]
/-- What is told where lines have no places. -/
inductive ToldP (ls : List Ln) : Int → Prop
  | wrong : (∃ x ∈ ls, x.right = false) → ToldP ls 1
  | twice : (∀ x ∈ ls, x.right = true) → ¬ (labs ls).Nodup → ToldP ls 4
def PlAns (ls : List Ln) (w : World) (e : Ending) (w' : World) : Prop :=
  Below w.heap.size w w' ∧ ((∃ n, ToldP ls n ∧ e = .returned (.tuple #[.slice none 0 0, .int .i64 n])) ∨ ((∀ x ∈ ls, x.right = true) ∧ (labs ls).Nodup ∧ ∃ g cap, w.heap.size ≤ g ∧ g < w'.heap.size ∧ e = .returned (.tuple #[.slice (some ⟨g, 0, none⟩) (placesL ls).length cap, .int .i64 0]) ∧ HasPairs w' g (placesL ls)))

theorem tab_from (ls : List Ln) : ∀ k, ∀ p ∈ tab ls k, ∃ x ∈ ls, x.L = p.1
  | 0, p, h => by simp [tab] at h
  | k + 1, p, h => by
    by_cases hk : k < ls.length
    · by_cases hz : (ls[k]'hk).L = 0
      · rw [tab_inst ls k hk hz] at h; exact tab_from ls k p h
      · rw [tab_label ls k hk hz] at h
        rcases List.mem_append.1 h with h | h
        · exact tab_from ls k p h
        · simp at h; subst h; exact ⟨_, List.getElem_mem hk, rfl⟩
    · rw [show tab ls (k + 1) = tab ls k by simp [tab, List.getElem?_eq_none (by omega : ls.length ≤ k)]] at h
      exact tab_from ls k p h
theorem labs_from {ls : List Ln} {t : Int} (h : t ∈ labs ls) : ∃ x ∈ ls, x.L = t := by
  obtain ⟨p, hp, rfl⟩ := List.mem_map.1 h
  exact tab_from ls _ p hp

theorem ownsRow_shape {W : World} {base : Nat} {e : TypeId} {size : Nat} {v : Value} {n : Nat} {xs : List Value} (h : W.ownsRow base e size v n xs) : ∃ av cap, v = .slice av n cap ∧ (0 < n → ∃ g, av = some ⟨g, 0, none⟩ ∧ base ≤ g ∧ g < W.heap.size) := by
  rcases h.2 with ⟨rfl, h0⟩ | ⟨g, cap, cur, rfl, hb, hc, _⟩
  · subst h0; exact ⟨none, 0, rfl, fun h => by omega⟩
  · exact ⟨_, cap, rfl, fun _ => ⟨g, rfl, hb, (Array.getElem?_eq_some_iff.1 hc).1⟩⟩

set_option maxRecDepth 100000 in
set_option maxHeartbeats 2000000 in
theorem places_any (av : Option Addr) (cap blk off : Nat) (ls : List Ln) (w : World) (hl : ls.length ≤ 1000000) (hfL : ∀ x ∈ ls, Fits x.L) (hin : IsLines w av blk off ls) :
    Calls Tryz.prog 16 #[.slice av ls.length cap] w (PlAns ls w) := by
  go_enter Tryz.func16, Tryz.ntmps16
  go_wp2_with fail
  refine (labels_any av cap blk off ls w (by omega) hfL hin).mono ?_
  rintro e w1 ⟨hb1, ⟨hbad, rfl⟩ | ⟨hr, htw, rfl⟩ | ⟨hr, hon, mb, hmb, rfl, hm⟩⟩
  · go_wp2_with fail
    go_ret2
    exact ⟨hb1, .inl ⟨1, .wrong hbad, rfl⟩⟩
  · go_wp2_with fail
    go_ret2
    exact ⟨hb1, .inl ⟨4, .twice hr htw, rfl⟩⟩
  have htl := tab_len ls ls.length (Nat.le_refl _)
  have hpl : (placesL ls).length = (tab ls ls.length).length := placesL_len ls
  obtain ⟨D0, hown, _, _, hs, _⟩ := id hm
  have hln : ∀ ty, (Builtin.len_ #[64] ty #[.map (some mb)]).run Tryz.prog w1 = .ok (.int .i64 ((tab ls ls.length).length : Int)) w1 := fun ty => by have := hown.len Tryz.underlying64 ty; rwa [hs] at this
  have hmk := make_pairs (tab ls ls.length).length (by omega)
  clear hown hs
  generalize hT : (tab ls ls.length).length = n at htl hpl hln hmk
  have hml := hm.lt
  have hn : n ≤ 1000000 := by omega
  go_wp2_with fail
  generalize hW2 : w1.alloc (.cells (madeCells #[.int .i64 0, .int .i64 0] (n * 2)) 49) = w2
  have hb2 : Below w1.heap.size w1 w2 := by rw [← hW2]; exact (Below.refl _ _).alloc (Nat.le_refl _) _
  have hrow2 : w2.ownsRow w1.heap.size 49 2 (.slice (some ⟨w1.heap.size, 0, none⟩) 0 n) 0 [] := by
    rw [← hW2]
    exact ⟨rfl, .inr ⟨w1.heap.size, n, _, rfl, Nat.le_refl _, World.alloc_heap_new w1 _, Nat.zero_le _, by unfold maxLen; omega, size_madeCells _ _, by simp⟩⟩
  have hs2 : Hid (w2.heap.size = w1.heap.size + 1) := by rw [← hW2]; exact World.size_alloc _ _
  have hm2 := hm.on (hb2.block _ hml)
  clear hW2 hmk hln
  refine (keysOf_any mb w2).mono ?_; rintro e w3 ⟨rfl, rfl⟩
  go_wp2_with fail
  refine (sorted_any mb _ w2 hm2 (by rw [hT]; exact hn)).mono ?_
  rintro e w4 ⟨v, rfl, hrow4, hb4⟩
  rw [hT] at hrow4
  have hs2o := hs2.out
  have hb24 : Below w2.heap.size w2 w4 := ((Below.refl _ w2).alloc (Nat.le_refl _) _).trans (hb4.mono (by omega))
  have hm4 := hm2.on (hb24.block _ hm2.lt)
  have hp4 : w4.ownsRow w1.heap.size 49 2 (.slice (some ⟨w1.heap.size, 0, none⟩) 0 n) 0 [] := hrow2.kept (row := none) ⟨hb24.os, hb24.tape, hb24.output, hb24.size, fun k hk _ => hb24.block k hk⟩ (.inr (by simp [Value.ownBlock]))
  have hB4 : Below w.heap.size w w4 := (hb1.trans (hb2.mono hb1.size)).trans (hb24.mono (by have := hb1.size; omega))
  obtain ⟨av4, cap4, rfl, hav4⟩ := ownsRow_shape hrow4
  have hs4 := hb24.size
  have hs1 := hb1.size
  clear hrow2 hm2 hb4 hb24 hb2 hm hs2o
  go_wp2_with fail
  generalize hq : w1.heap.size = q at hp4
  have HQ : Hid (w.heap.size ≤ q ∧ mb < q ∧ q < w2.heap.size) := ⟨by omega, by omega, by have := hs2.out; omega⟩
  have HT : Hid ((placesL ls).length = n) := hpl
  have HV : Hid (0 < n → ∃ gs, av4 = some ⟨gs, 0, none⟩ ∧ w2.heap.size + 1 ≤ gs ∧ gs < w4.heap.size) := hav4
  have HX : Hid (0 < n → av4 = none → False) := fun h e => by obtain ⟨g, e', _⟩ := hav4 h; rw [e] at e'; cases e'
  clear hav4 hpl
  go_loopw [6, 24] (fun pv i wr => ∃ (k g cp : Nat), k ≤ n ∧ i = .int .i64 k ∧ pv = .slice (some ⟨g, 0, none⟩) k cp ∧ wr.ownsRow q 49 2 (.slice (some ⟨g, 0, none⟩) k cp) k (((placesL ls).take k).flatMap pcells) ∧ LabMap wr mb (tab ls ls.length) ∧ Below w.heap.size w wr ∧ wr.ownsRow (w2.heap.size + 1) 3 1 (.slice av4 n cap4) n ((rising (labs ls)).map encZ) ∧ (∀ gs, av4 = some ⟨gs, 0, none⟩ → gs ≠ g ∧ gs < wr.heap.size) ∧ q ≤ g ∧ q ≤ wr.heap.size) (fun _ i _ => n - (intOf i).toNat)
  case atStart =>
    refine ⟨0, q, n, Nat.zero_le _, rfl, rfl, by simpa using hp4, hm4, hB4, hrow4, fun gs e => ?_, Nat.le_refl _, by have := HQ.out; omega⟩
    have hgs : w2.heap.size + 1 ≤ gs ∧ gs < w4.heap.size := by
      rcases hrow4.2 with ⟨e', _⟩ | ⟨g, c, cur, e', hb, hc, _⟩
      · rw [e] at e'; cases e'
      · rw [e] at e'; cases e'; exact ⟨hb, (Array.getElem?_eq_some_iff.1 hc).1⟩
    have := HQ.out
    exact ⟨by omega, hgs.2⟩
  case round =>
    obtain ⟨k, g, cp, hk, rfl, rfl, hrow, hmr, hB, hsr, hne, hqg, hqs⟩ := hrel
    clear hp4 hm4 hB4 hrow4
    by_cases hlt : k < n
    · obtain ⟨gs, rfl, _, _⟩ := HV.out (by omega)
      obtain ⟨hne1, hgs⟩ := hne gs rfl
      have hlen : (rising (labs ls)).length = n := by have := HT.out; unfold placesL at this; rwa [List.length_map] at this
      have hkl : k < (rising (labs ls)).length := by omega
      have hcell : wr.cell? ⟨gs, k, none⟩ = some (.int .i64 ((rising (labs ls))[k]'hkl)) := by
        rw [hsr.cellAt k (by omega)]; simp [hkl]
      have hmem : (rising (labs ls))[k]'hkl ∈ labs ls := (rising_mem _ _).1 (List.getElem_mem hkl)
      have hpk : (placesL ls).take (k + 1) = (placesL ls).take k ++ [((rising (labs ls))[k]'hkl, placeOf (tab ls ls.length) ((rising (labs ls))[k]'hkl))] := by
        rw [List.take_succ_eq_append_getElem (by rw [HT.out]; exact hlt)]; simp [placesL]
      have hfit : Fits ((rising (labs ls))[k]'hkl) := by obtain ⟨x, hx, e⟩ := labs_from hmem; rw [← e]; exact hfL x hx
      obtain ⟨D1, hown1, hat1⟩ := hmr.at hmem
      generalize (rising (labs ls))[k]'hkl = t at hcell hmem hpk hfit hat1
      generalize placeOf (tab ls ls.length) t = pv at hat1 hpk
      have HPK : Hid ((placesL ls).take (k + 1) = (placesL ls).take k ++ [(t, pv)]) := hpk
      have hkey : keyOf Tryz.prog 3 (.int .i64 t) = some (.int .i64 t) := keyOf_int_mk Tryz.underlying3 hfit.wf
      have e1 : ((k : Int) < (n : Int)) = True := by simp; omega
      obtain ⟨g', cp', W5, hap, hown5, hgr, hwh, hlt5⟩ := append_pair (wr.alloc (.cells #[.int .i64 t, .int .i64 pv] 49)) 45 q g k cp _ (hrow.alloc _) wr.heap.size 1 (t, pv) (World.cell?_alloc_new _ _ _ _) (World.cell?_alloc_new _ _ _ _) (by omega) (by simp; omega)
      have HAP : Hid ((Builtin.append_ #[45, 45] 45 #[.slice (some ⟨g, 0, none⟩) k cp, .slice (some ⟨wr.heap.size, 0, none⟩) 1 1]).run Tryz.prog (wr.alloc (.cells #[.int .i64 t, .int .i64 pv] 49)) = .ok (.slice (some ⟨g', 0, none⟩) (k + 1) cp') W5) := hap
      clear hap hpk
      go_wp2_with (first
        | (at_lookup; refine wpList_lookup_own_int _ rfl _ _ 64 rfl 3 3 .i64 law3 Tryz.underlying64 Tryz.underlying3 (zero3 _) mb _ D1 rfl hown1 _ _ rfl hkey ?_; intro c hat hwc; obtain rfl : pv = c := by (rw [hat1] at hat; injection hat with h1; injection h1))
        | (at_builtin; refine wpList_append_run rfl (.tmp 28) (.tmp 34) 45 rfl rfl rfl HAP.out ?_))
      go_roundw
      case rel =>
        have hq2 := HQ.out
        have hml2 := hmr.lt
        rw [World.size_alloc] at hwh
        refine ⟨k + 1, g', cp', by omega, by go_num, rfl, ?_, hmr.on ((hgr.block mb (by simp; omega) (fun e => by cases e; omega)).trans (Below.heap_alloc _ _ _ hml2)), (hB.alloc hB.size _).grown hgr (by have := hB.size; simp; omega) (fun b e => by cases e; omega), (hsr.alloc _).kept hgr (.inr (by simpa [Value.ownBlock] using hne1)), fun gs' e => ?_, by rcases hwh with h | h <;> omega, ?_⟩
        · rw [HPK.out, List.flatMap_append]; simpa using hown5
        · cases e
          have := hgr.size
          rw [World.size_alloc] at this
          exact ⟨by rcases hwh with h | h <;> omega, by omega⟩
        · have := hgr.size
          rw [World.size_alloc] at this
          omega
      case measure => simp [intOf]; omega
    · have e1 : ((k : Int) < (n : Int)) = False := by simp; omega
      obtain rfl : k = n := by omega
      go_wp2
      go_ret2
      rw [List.take_of_length_le (by rw [HT.out]; exact Nat.le_refl _)] at hrow
      have hHT := HT.out
      refine ⟨hB, .inr ⟨hr, hon, g, cp, by have := HQ.out; omega, ?_, by rw [hHT]; rfl, owns_pairs (by rw [hHT]; exact hrow)⟩⟩
      rcases hrow.2 with ⟨e', _⟩ | ⟨g2, c, cur, e', hb, hc, _⟩
      · cases e'
      · cases e'; exact (Array.getElem?_eq_some_iff.1 hc).1

end Go.Proofs.YtbfmadcppnfgpaaGreatDoor
