/-
  The law ParseTexts (layer 10): its walk.
-/
import Derived.Test.YtgndnodahlabiaaRfK
import Derived.Test.YtgndnodahlabiaaRfB
import Derived.Test.YtgndnodahlabiaaOpn
namespace Go.Proofs.Ytgndnodahlabiaa
open Go.ChangeShapes Go.WideShapes Go.ChangeAt Go.RowKit

set_option maxRecDepth 100000 in
set_option maxHeartbeats 16000000 in
theorem texts_walk (n m : Nv) (s : ByteArray) (W : World) (hn : LiesD AnyD W n) (hm : LiesD AnyD W m) (h1 : ned n.nd ≤ 2 ^ 40) (h2 : ned m.nd ≤ 2 ^ 40) :
    Calls Try.prog 3 #[n.val, m.val, .string s] W fun e w' => e = .returned (.bool true) ∧ Below W.heap.size W w' := by
  obtain ⟨st, rfl⟩ : ∃ st, s = bs st := ⟨_, bs_self s⟩
  obtain ⟨k, tt, a, av, cap, blk, off, ks⟩ := n
  obtain ⟨k2, tt2, a2, av2, cap2, blk2, off2, ks2⟩ := m
  have z1 := sz_ned (Nv.mk k tt a av cap blk off ks).nd
  have z2 := sz_ned (Nv.mk k2 tt2 a2 av2 cap2 blk2 off2 ks2).nd
  have b1 := sz_bnd (Nv.mk k tt a av cap blk off ks).nd (by omega)
  have b2 := sz_bnd (Nv.mk k2 tt2 a2 av2 cap2 blk2 off2 ks2).nd (by omega)
  show Calls Try.prog 3 #[.agg #[.int .i64 k, .string (bs tt), .int .i64 a, .slice av ks.length cap], .agg #[.int .i64 k2, .string (bs tt2), .int .i64 a2, .slice av2 ks2.length cap2], .string (bs st)] W _
  have hb1 := bel_new W (.cells #[.int .i64 k, .string (bs tt), .int .i64 a, .slice av ks.length cap] 24)
  have hb2 := bel_two hb1 (bel_new (W.alloc (.cells #[.int .i64 k, .string (bs tt), .int .i64 a, .slice av ks.length cap] 24)) (.cells #[.int .i64 k2, .string (bs tt2), .int .i64 a2, .slice av2 ks2.length cap2] 24))
  have N2 := (NodB.new hn).below (bel_new (W.alloc (.cells #[.int .i64 k, .string (bs tt), .int .i64 a, .slice av ks.length cap] 24)) (.cells #[.int .i64 k2, .string (bs tt2), .int .i64 a2, .slice av2 ks2.length cap2] 24))
  have M2 := NodB.new (hm.turns (turns_b (Q := fun _ => False) hb1) (fun _ _ _ h => h))
  rw [World.size_alloc] at M2
  have HS := hidW (small_is ((W.alloc (.cells #[.int .i64 k, .string (bs tt), .int .i64 a, .slice av ks.length cap] 24)).alloc (.cells #[.int .i64 k2, .string (bs tt2), .int .i64 a2, .slice av2 ks2.length cap2] 24)))
  have H0 := hidW (And.intro N2 (And.intro M2 hb2))
  have HB := hidW (And.intro (And.intro b1 b2) (And.intro (And.intro h1 h2) (And.intro z1 z2)))
  clear hn hm h1 h2 z1 z2 b1 b2 hb1 hb2 N2 M2
  go_enter Try.func3, Try.ntmps3
  go_wp2_with fail
  refine HS.out.mono ?_
  clear HS
  rintro e V1 ⟨rfl, hb⟩
  have N1 := H0.out.1.below hb
  have M1 := H0.out.2.1.below hb
  have HF := hidW (few_is (Nv.mk k tt a av cap blk off ks) V1 _ N1.li HB.out.1.1)
  obtain ⟨c0, c1, c2, c3⟩ := N1.cells
  have H1 := hidW (And.intro N1 (And.intro M1 (bel_two H0.out.2.2 hb)))
  clear N1 M1 hb H0
  go_wp2_with fail
  refine HF.out.mono ?_
  clear HF c0 c1 c2 c3
  rintro e V2 ⟨rfl, hb⟩
  have H2 := hidW (And.intro (H1.out.1.below hb) (And.intro (H1.out.2.1.below hb) (bel_two H1.out.2.2 hb)))
  clear H1 hb
  cases hf1 : few (Nv.mk k tt a av cap blk off ks).nd with
  | false =>
    clear hf1
    go_wp2_with fail
    go_ret
    exact ⟨rfl, H2.out.2.2⟩
  | true =>
    clear hf1
    have HF := hidW (few_is (Nv.mk k2 tt2 a2 av2 cap2 blk2 off2 ks2) V2 _ H2.out.2.1.li HB.out.1.2)
    obtain ⟨c0, c1, c2, c3⟩ := H2.out.2.1.cells
    go_wp2_with fail
    refine HF.out.mono ?_
    clear HF c0 c1 c2 c3
    rintro e V3 ⟨rfl, hb⟩
    have H3 := hidW (And.intro (H2.out.1.below hb) (And.intro (H2.out.2.1.below hb) (bel_two H2.out.2.2 hb)))
    clear H2 hb
    cases hf2 : few (Nv.mk k2 tt2 a2 av2 cap2 blk2 off2 ks2).nd with
    | false =>
      clear hf2
      go_wp2_with fail
      go_ret
      exact ⟨rfl, H3.out.2.2⟩
    | true =>
      clear hf2
      obtain ⟨c0, c1, c2, c3⟩ := H3.out.1.cells
      obtain ⟨d0, d1, d2, d3⟩ := H3.out.2.1.cells
      have G1 := hidW (fun (d : Nat) (os : Array Obj) => Calls.regrown_of (text_of (Nv.mk k tt a av cap blk off ks) _ _ (H3.out.1.below (below_regrown V3 d os)).li HB.out.1.1 (by have := HB.out.2.1.1; omega)))
      have G2 := hidW (fun (d : Nat) (os : Array Obj) => Calls.regrown_of (rtext_is (Nv.mk k tt a av cap blk off ks) _ _ (H3.out.1.below (below_regrown V3 d os)).li HB.out.1.1 HB.out.2.1.1))
      have G3 := hidW (fun (d : Nat) (os : Array Obj) => Calls.regrown_of (size_is (Nv.mk k tt a av cap blk off ks) _ _ (H3.out.1.below (below_regrown V3 d os)).li (by have := HB.out.2; omega)))
      have G4 := hidW (fun (d : Nat) (os : Array Obj) => Calls.regrown_of (rsize_is (Nv.mk k tt a av cap blk off ks) _ _ (H3.out.1.below (below_regrown V3 d os)).li (by have := HB.out.2; omega)))
      have G5 := hidW (fun (d : Nat) (os : Array Obj) => Calls.regrown_of (tsame_is (Nv.mk k tt a av cap blk off ks) (Nv.mk k2 tt2 a2 av2 cap2 blk2 off2 ks2) _ _ (H3.out.1.below (below_regrown V3 d os)).li (H3.out.2.1.below (below_regrown V3 d os)).li HB.out.1.1 HB.out.1.2))
      have G6 := hidW (fun (d : Nat) (os : Array Obj) => Calls.regrown_of (rsame_is (Nv.mk k tt a av cap blk off ks) (Nv.mk k2 tt2 a2 av2 cap2 blk2 off2 ks2) _ _ (H3.out.1.below (below_regrown V3 d os)).li (H3.out.2.1.below (below_regrown V3 d os)).li HB.out.1.1 HB.out.1.2))
      have G7 := hidW (fun (d : Nat) (os : Array Obj) => (word_is st (Sort.grow (redrawn V3 d) os)).mono fun e w'' h => (show e = .returned (.bool (wordB st)) ∧ ∃ p : Regrown, w'' = Sort.grow (redrawn V3 p.d) p.os from ⟨h.1, ⟨d, os⟩, h.2⟩))
      have G8 := hidW (fun (d : Nat) (os : Array Obj) => Calls.regrown_of (rword_is st (Sort.grow (redrawn V3 d) os)))
      generalize txt (Nv.mk k tt a av cap blk off ks).nd = tx at *
      generalize sameB (Nv.mk k tt a av cap blk off ks).nd (Nv.mk k2 tt2 a2 av2 cap2 blk2 off2 ks2).nd = sb at *
      generalize hsz : (Nv.mk k tt a av cap blk off ks).nd.sz = sz at *
      generalize wordB st = wb at *
      have e1 : ((bs tx).toList == (bs tx).toList) = true := by simp
      have e2 : ((sz : Int) == (sz : Int)) = true := by simp
      have e3 : (sb == sb) = true := by simp
      have e4 : (wb == wb) = true := by simp
      have l0 := fun d os => cell_regrown c0 d os
      have l1 := fun d os => cell_regrown c1 d os
      have l2 := fun d os => cell_regrown c2 d os
      have l3 := fun d os => cell_regrown c3 d os
      have p0 := fun d os => cell_regrown d0 d os
      have p1 := fun d os => cell_regrown d1 d os
      have p2 := fun d os => cell_regrown d2 d os
      have p3 := fun d os => cell_regrown d3 d os
      have HBB := hidW H3.out.2.2
      clear H3 hsz HB
      go_wp2_with fail
      clear c0 c1 c2 c3 d0 d1 d2 d3
      refine wp_region_quiet_below (by kernel_rfl) (by kernel_rfl) ?_
      repeat (go_big_quiet_step (fail))
      go_big_quiet_step (first | (go_at_call 9; exact G1.out _ _))
      repeat (go_big_quiet_step (fail))
      go_big_quiet_step (first | (go_at_call 10; exact G2.out _ _))
      repeat (go_big_quiet_step (fail))
      go_big_quiet_step (first | (go_at_call 11; exact G3.out _ _))
      repeat (go_big_quiet_step (fail))
      go_big_quiet_step (first | (go_at_call 12; exact G4.out _ _))
      repeat (go_big_quiet_step (fail))
      go_big_quiet_step (first | (go_at_call 13; exact G5.out _ _))
      repeat (go_big_quiet_step (fail))
      go_big_quiet_step (first | (go_at_call 14; exact G6.out _ _))
      repeat (go_big_quiet_step (fail))
      go_big_quiet_step (first | (go_at_call 15; exact G7.out _ _))
      repeat (go_big_quiet_step (fail))
      go_big_quiet_step (first | (go_at_call 16; exact G8.out _ _))
      repeat (go_big_quiet_step (fail))
      refine wpQuiet_nil ?_
      intro w17 hw'
      have hb17 : Below V3.heap.size V3 w17 := by obtain ⟨⟨dq, osq⟩, hw''⟩ := hw'; rw [hw'']; exact below_regrown _ dq osq
      have HB17 := hidW (bel_two HBB.out hb17)
      clear hw' hb17
      go_wp2
      go_ret
      exact ⟨rfl, HB17.out⟩

end Go.Proofs.Ytgndnodahlabiaa
