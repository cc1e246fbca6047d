/-
  The law AsmConst (layer 5): its walk.
-/
import Derived.Test.YtbfmadcppnfgpaaGreatDoorCnP
import Derived.Test.YtbfmadcppnfgpaaGreatDoorSmall
namespace Go.Proofs.YtbfmadcppnfgpaaGreatDoor
open Go.ChangeShapes Go.WideShapes Go.ChangeAt Go.RowKit

theorem hide {p : Prop} (h : p) : Hid p := h
theorem flat_toQ (l : List Ins) : (l.map toQ).flatMap Q.Ins.cells = l.flatMap Ins.cells := by
  induction l with
  | nil => rfl
  | cons x r ih => rw [List.map_cons, List.flatMap_cons, List.flatMap_cons, ih]

/-- The code is put together. -/
theorem built (W : World) (g : Nat) (r n : Int) (hin : IsIns W (some ⟨g, 0, none⟩) g 0 (constL r n)) :
    ∃ av c W1 av2 c2 W2,
      (Builtin.append_ #[23, 23] 23 #[.slice (some ⟨W.heap.size, 0, none⟩) 0 0, .slice (some ⟨g, 0, none⟩) (constL r n).length (constL r n).length]).run Tryz.prog (W.alloc (.cells #[] 31)) = .ok (.slice av (constL r n).length c) W1 ∧
      (Builtin.append_ #[23, 23] 23 #[.slice av (constL r n).length c, .slice (some ⟨W1.heap.size, 0, none⟩) 2 2]).run Tryz.prog (W1.alloc (.cells #[.int .i64 12, .int .i64 r, .int .i64 0, .int .i64 0, .int .i64 0, .int .i64 0, .int .i64 0, .int .i64 0, .int .i64 0, .int .i64 0] 31)) = .ok (.slice av2 (codeC r n).length c2) W2 ∧
      Below W.heap.size W W2 ∧ Q.RowAt (fun k => k < W2.heap.size) W2 (.slice av2 (codeC r n).length c2) ((codeC r n).map toQ) := by
  have hl := constL_len r n
  have hb0 : Below W.heap.size W (W.alloc (.cells #[] 31)) := bel_new W _
  have ho := owns_empty W W.heap.size 31 5 (Nat.le_refl _)
  obtain ⟨v1, W1, ha1, ho1, hg1⟩ := append_row _ 23 W.heap.size _ 0 _ ho (some ⟨g, 0, none⟩) (constL r n).length g 0 (constL r n) (hin.later hb0) (by omega) (by simp)
  have hb1 : Below W.heap.size W W1 := hb0.trans (grown_base ho hg1 (by simp))
  rw [Nat.zero_add, List.nil_append] at ho1
  obtain ⟨av, c, rfl, _⟩ := owns_shape ho1
  have hbn := bel_new W1 (.cells ([(⟨12, r, 0, 0, 0⟩ : Ins), ⟨0, 0, 0, 0, 0⟩].flatMap Ins.cells).toArray 31)
  have ho2 := owns_below ho1 hbn
  have hs1 := hb1.size
  obtain ⟨v2, W2, ha2, ho3, hg2⟩ := append_row _ 23 W.heap.size _ _ _ ho2 (some ⟨W1.heap.size, 0, none⟩) 2 W1.heap.size 0 [⟨12, r, 0, 0, 0⟩, ⟨0, 0, 0, 0, 0⟩] (new_ins W1 _) (by simp; omega) (by simp; omega)
  have hb2 : Below W.heap.size W W2 := (hb1.trans (hbn.mono hs1)).trans (grown_base ho2 hg2 (by simp; omega))
  have hlen : (constL r n).length + [(⟨12, r, 0, 0, 0⟩ : Ins), ⟨0, 0, 0, 0, 0⟩].length = (codeC r n).length := by unfold codeC; rw [List.length_append]
  rw [hlen] at ho3
  obtain ⟨av2, c2, rfl, _⟩ := owns_shape ho3
  refine ⟨av, c, W1, av2, c2, W2, ha1, ha2, hb2, ?_⟩
  have hq : W2.ownsRow W.heap.size 31 5 (.slice av2 (codeC r n).length c2) ((codeC r n).map toQ).length (((codeC r n).map toQ).flatMap Q.Ins.cells) := by
    rw [flat_toQ, List.length_map]
    unfold codeC at ho3 ⊢
    rw [List.flatMap_append]
    exact ho3
  exact (Q.owns_rows hq).wide (fun k hk => hk.2)

theorem constL_one (r n : Int) : (((constL r n).length : Int) == 1) = (decide (-2147483648 ≤ n) && decide (n ≤ 2147483647)) := by
  unfold constL
  by_cases h : -2147483648 ≤ n ∧ n ≤ 2147483647
  · simp [h]
  · rw [if_neg h]
    have : (decide (-2147483648 ≤ n) && decide (n ≤ 2147483647)) = false := by rw [← Bool.decide_and]; simpa using h
    rw [this]; rfl

set_option maxRecDepth 100000 in
set_option maxHeartbeats 8000000 in
theorem constLaw (r n : Int) (hn : Fits n) (w : World) (hT : Tabs w) :
    Calls Tryz.prog 3 #[.int .i64 r, .int .i64 n] w fun e w' => e = .returned (.bool true) ∧ Below w.heap.size w w' := by
  have hlen2 := constL_len r n
  have hone := constL_one r n
  go_enter Tryz.func3, Tryz.ntmps3
  go_wp2_with fail
  refine (small_is w hT).mono ?_; rintro e w1 ⟨rfl, hb1⟩
  go_wp2_with fail
  refine (const_any r n hn w1).mono ?_; rintro e w2 ⟨g2, rfl, hi2, hg2, hb2⟩
  go_wp2_with fail
  refine (refconst_any r n hn w2).mono ?_; rintro e w3 ⟨g3, rfl, hi3, hg3, hb3⟩
  have hi2' := hi2.later hb3
  have hB3 := bel_two (bel_two hb1 hb2) hb3
  clear hi2 hb1 hb2 hb3 hg2 hg3
  go_wp2_with fail
  refine (same_rows (by omega) hi2' hi3).mono ?_; rintro e w4 ⟨rfl, hb4⟩
  have hi4 := hi2'.later hb4
  have hB4 := bel_two hB3 hb4
  clear hi2' hi3 hb4 hB3
  have e2 : ((2 : Int) < (constL r n).length) = False := by simp; omega
  by_cases h0 : r < 0
  · go_wp2
    go_ret
    exact ⟨rfl, hB4⟩
  by_cases h14 : 14 ≤ r
  · go_wp2
    go_ret
    exact ⟨rfl, hB4⟩
  obtain ⟨k, rfl⟩ : ∃ k : Nat, r = k := ⟨r.toNat, by omega⟩
  obtain ⟨av, c, W1, av2, c2, W2, ha1, ha2, hb5, hrow⟩ := built w4 g2 k n hi4
  have HA1 := hide ha1
  have HA2 := hide ha2
  have hB5 := bel_two hB4 hb5
  have hcr := code_right k n (by omega) (by omega) hn
  have hrun := run_const k n (by omega) hn
  have hlc : ((codeC k n).map toQ).length ≤ 200 := by unfold codeC; simp; omega
  have hlm : ((codeC k n).map toQ).length = (codeC k n).length := List.length_map ..
  have hnil : Q.IntsAt (fun k => k < W2.heap.size) W2 (.slice none 0 0) [] := ⟨none, 0, rfl, Nat.le_refl _, Nat.zero_le _, fun h => absurd h (Nat.lt_irrefl 0)⟩
  have hnew := Q.new_mac hrow hnil hlc (by simp) 5
  have hne : Q.newE ((codeC k n).map toQ) 5 = 0 := by unfold Q.newE; rw [if_neg (by simp [hcr]), if_neg (by omega)]
  have HNEW := hide hnew
  clear ha1 ha2 hb5 hrow hi4 hnil hnew hB4 hcr
  go_wp2_with (at_builtin; first | refine wpList_append_run rfl (.tmp 32) (.tmp 33) 23 rfl rfl rfl HA1.out ?_ | refine wpList_append_run rfl (.tmp 34) (.tmp 38) 23 rfl rfl rfl HA2.out ?_)
  refine HNEW.out.mono ?_
  clear HA1 HA2 HNEW
  rintro e w5 ⟨hb6, ⟨hne', _⟩ | ⟨_, B, F, rfl, hF, hmac⟩⟩
  · exact absurd hne hne'
  have hB6 := bel_two hB5 hb6
  have hrunm := Q.run_mac hmac 10 (by show 0 + 10 ≤ 10000000; decide)
  have HR := hide hrunm
  have hs5 := hB5.size
  clear hrunm hb6 hB5 hne
  go_wp2_with fail
  refine HR.out.mono ?_
  clear HR
  rintro e w6 ⟨rfl, hmv, F2, hF2, hmac2⟩
  have hB7 : Below w.heap.size w w6 := hB6.trans (hmv.below hB6.size (fun k hk => by have := hF k hk; omega))
  have hmac3 : Q.Mac w6 F2 B ((codeC k n).map toQ) (Q.runM ((codeC k n).map toQ) 10 (Q.MS.init 5 [])).1 := hmac2
  clear hmac2
  have hout := Q.output_mac hmac3 (by rw [hrun]; simp)
  rw [hrun] at hout
  have HO := hide hout
  clear hout hmv hmac hmac3 hrun hs5
  go_wp2_with fail
  refine HO.out.mono ?_
  clear HO
  rintro e w7 ⟨v7, rfl, hb8, hi8⟩
  have hB8 := bel_two hB7 hb8
  have hnew := bel_new w7 (.cells #[.int .i64 n] 3)
  have hi9 := hi8.keep (W' := w7.alloc (.cells #[.int .i64 n] 3)) (fun k hk => hnew.block k hk.2)
  have hi9' : Q.IntsAt (fun k => k = w7.heap.size) (w7.alloc (.cells #[.int .i64 n] 3)) (.slice (some ⟨w7.heap.size, 0, none⟩) 1 1) [n] :=
    ⟨_, 1, rfl, Nat.le_refl _, by decide, fun _ => ⟨_, 0, rfl, rfl, fun j hj => by
      obtain rfl : j = 0 := by simp at hj; omega
      rw [World.cell?, Q.heap_new _ _ rfl]; rfl⟩⟩
  have HS := hide (Q.ints_same (l := [n]) (by simp) hi9 hi9')
  have hB9 := bel_two hB8 hnew
  clear hi8 hi9 hi9' hb8 hnew hB7 hB8
  go_wp2_with (go_at_call 10; refine HS.out.mono ?_; rintro e w8 ⟨rfl, hb10⟩)
  all_goals go_ret
  all_goals exact ⟨rfl, bel_two hB9 hb10⟩

end Go.Proofs.YtbfmadcppnfgpaaGreatDoor
