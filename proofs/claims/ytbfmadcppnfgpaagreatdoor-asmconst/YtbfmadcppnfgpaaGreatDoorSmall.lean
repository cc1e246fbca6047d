/-
  The small case of the laws of layer 5.
-/
import Derived.Test.YtbfmadcppnfgpaaGreatDoorConst
import Derived.Test.YtbfmadcppnfgpaaGreatDoorTexts
namespace Go.Proofs.YtbfmadcppnfgpaaGreatDoor
open Go.ChangeShapes Go.WideShapes Go.ChangeAt Go.RowKit

def sm4 : List Ln := [⟨0, 7, 0, 0, 0, 0, 1⟩, ⟨0, 12, 2, 0, 0, 0, 0⟩, ⟨1, 0, 0, 0, 0, 0, 0⟩, ⟨0, 0, 0, 0, 0, 0, 0⟩]
def sm5 : List Ln := sm4 ++ [⟨1, 0, 0, 0, 0, 0, 0⟩]
theorem sm4_right : ∀ x ∈ sm4, x.right = true := by decide
theorem sm5_right : ∀ x ∈ sm5, x.right = true := by decide
theorem sm4_tab : tab sm4 4 = [(1, 2)] := by decide
theorem sm4_labs : labs sm4 = [1] := by decide
theorem sm5_labs : ¬ (labs sm5).Nodup := by decide
theorem sm4_leads : leads sm4 (labs sm4) := by rw [sm4_labs]; unfold leads; decide
theorem sm4_code : asmL sm4 = [⟨7, 0, 0, 0, 2⟩, ⟨12, 2, 0, 0, 0⟩, ⟨0, 0, 0, 0, 0⟩] := by
  unfold asmL; rw [show sm4.length = 4 from rfl, sm4_tab]; rfl
theorem sm4_places : placesL sm4 = [(1, 2)] := by
  unfold placesL; rw [sm4_labs, show sm4.length = 4 from rfl, sm4_tab]; simp [rising, placeOf]
theorem dec_0 : Lib.decDigits 0 = [48] := by rw [Lib.decDigits_one (by decide)]; rfl
theorem dec_1 : Lib.decDigits 1 = [49] := by rw [Lib.decDigits_one (by decide)]; rfl
theorem dec_2 : Lib.decDigits 2 = [50] := by rw [Lib.decDigits_one (by decide)]; rfl
theorem itoa_0 : Lib.itoa 0 = [48] := dec_0
theorem itoa_1 : Lib.itoa 1 = [49] := dec_1
theorem sm4_texts : textsL sm4 = [32, 32, 106, 109, 112, 32, 48, 32, 62, 76, 49, 10, 32, 32, 111, 117, 116, 32, 114, 50, 10, 76, 49, 58, 10, 32, 32, 104, 97, 108, 116, 32, 48, 10] := by
  have r1 : rightB 7 0 0 0 0 = true := by decide
  have r2 : rightB 12 2 0 0 0 = true := by decide
  have r3 : rightB 0 0 0 0 0 = true := by decide
  simp [textsL, sm4, Ln.text, textL, txt, r1, r2, r3, namesL, rt, fA, fB, fC, fI, itoa_0, itoa_1, dec_2]
theorem sm4_fitL : ∀ x ∈ sm4, Fits x.L := by decide
theorem sm4_fitT : ∀ x ∈ sm4, Fits x.t := by decide
theorem sm5_fitL : ∀ x ∈ sm5, Fits x.L := by decide
theorem sm5_fitT : ∀ x ∈ sm5, Fits x.t := by decide
theorem sm4_told (n : Int) : ¬ Told sm4 n := by
  intro h
  cases h with
  | wrong h => obtain ⟨x, hx, e⟩ := h; rw [sm4_right x hx] at e; cases e
  | twice _ h => exact h (by rw [sm4_labs]; decide)
  | none _ _ h => exact h sm4_leads
theorem sm4_toldP (n : Int) : ¬ ToldP sm4 n := by
  intro h
  cases h with
  | wrong h => obtain ⟨x, hx, e⟩ := h; rw [sm4_right x hx] at e; cases e
  | twice _ h => exact h (by rw [sm4_labs]; decide)
theorem sm5_told {n : Int} (h : Told sm5 n) : n = 4 := by
  cases h with
  | wrong h => obtain ⟨x, hx, e⟩ := h; rw [sm5_right x hx] at e; cases e
  | twice _ h => rfl
  | none _ h _ => exact absurd h sm5_labs

/-- A row that has no room, and one line more. -/
theorem append_full (w : World) (ty : TypeId) (blk : Nat) (h4 : IsLines w (some ⟨blk, 0, none⟩) blk 0 sm4) (b2 c : Nat) (h1 : IsLines w (some ⟨b2, 0, none⟩) b2 0 [⟨1, 0, 0, 0, 0, 0, 0⟩]) :
    ∃ cap w', (Builtin.append_ #[42, 42] ty #[.slice (some ⟨blk, 0, none⟩) 4 4, .slice (some ⟨b2, 0, none⟩) 1 c]).run Tryz.prog w = .ok (.slice (some ⟨w.heap.size, 0, none⟩) 5 cap) w' ∧ IsLines w' (some ⟨w.heap.size, 0, none⟩) w.heap.size 0 sm5 ∧ Below w.heap.size w w' := by
  obtain ⟨i, hi, hz, hsi, hb⟩ := info_parts typ38
  have src : ∀ (b : Nat) (l : List Ln) (c : Nat), IsLines w (some ⟨b, 0, none⟩) b 0 l → Src Tryz.prog i.size 42 (.slice (some ⟨b, 0, none⟩) l.length c) l.length (l.flatMap Ln.cl) w := fun b l c hl => by
    rw [hsi]
    refine Src.ofSlice w Tryz.underlying42 ⟨b, 0, none⟩ l.length c (l.flatMap Ln.cl) (lflat_len l) (fun j u hu => ?_) (fun u hu => ?_)
    · rw [Addr.add_mid]
      have hj : j < l.length * 7 := by rw [← lflat_len]; exact (List.getElem?_eq_some_iff.1 hu).1
      obtain ⟨q, f, hf, rfl⟩ : ∃ q f, f < 7 ∧ j = q * 7 + f := ⟨j / 7, j % 7, by omega, by omega⟩
      rw [lflat_get l q f (by omega) hf] at hu
      obtain ⟨k0, k1, k2, k3, k4, k5, k6⟩ := hl.has q (by omega)
      have hf' : f = 0 ∨ f = 1 ∨ f = 2 ∨ f = 3 ∨ f = 4 ∨ f = 5 ∨ f = 6 := by omega
      rw [← Nat.add_assoc]
      rcases hf' with rfl | rfl | rfl | rfl | rfl | rfl | rfl
      · exact k0.trans hu
      · exact k1.trans hu
      · exact k2.trans hu
      · exact k3.trans hu
      · exact k4.trans hu
      · exact k5.trans hu
      · exact k6.trans hu
    · obtain ⟨x, _, hx⟩ := List.mem_flatMap.1 hu
      simp at hx
      rcases hx with rfl | rfl | rfl | rfl | rfl | rfl | rfl <;> rfl
  have s4 := src blk sm4 4 h4
  have s1 := src b2 [⟨1, 0, 0, 0, 0, 0, 0⟩] c h1
  have hr := run_append_grow_src (P := Tryz.prog) w 42 42 ty 38 i _ Tryz.underlying42 hi hz (some ⟨blk, 0, none⟩) 4 4 (sm4.flatMap Ln.cl) s4.cellsD _ 1 _ s1 (by decide) (by decide) (by rw [hb]; decide)
  refine ⟨_, _, hr, ?_, ((Below.refl _ w).drew).alloc (Nat.le_refl _) _⟩
  refine ⟨fun _ => rfl, fun _ => by simp, fun j hj => ?_⟩
  have hj5 : j < 5 := hj
  have key : ∀ f, f < 7 → (w.drew.alloc (.cells ((sm4.flatMap Ln.cl ++ [(⟨1, 0, 0, 0, 0, 0, 0⟩ : Ln)].flatMap Ln.cl).toArray ++ Builtin.zeroCells (Value.agg #[.int .i64 0, .int .i64 0, .int .i64 0, .int .i64 0, .int .i64 0, .int .i64 0, .int .i64 0]).cells (grownCap w (4 + 1) 4 38 - (4 + 1))) 38)).cell? ⟨w.heap.size, 0 + j * 7 + f, none⟩ = (Ln.cl (sm5[j]'hj))[f]? := fun f hf => by
    rw [← lflat_get sm5 j f hj hf]
    have hc := World.cell?_alloc_new w.drew ((sm4.flatMap Ln.cl ++ [(⟨1, 0, 0, 0, 0, 0, 0⟩ : Ln)].flatMap Ln.cl).toArray ++ Builtin.zeroCells (Value.agg #[.int .i64 0, .int .i64 0, .int .i64 0, .int .i64 0, .int .i64 0, .int .i64 0, .int .i64 0]).cells (grownCap w (4 + 1) 4 38 - (4 + 1))) 38 (0 + j * 7 + f)
    refine Eq.trans hc ?_
    have e5 : sm4.flatMap Ln.cl ++ [(⟨1, 0, 0, 0, 0, 0, 0⟩ : Ln)].flatMap Ln.cl = sm5.flatMap Ln.cl := rfl
    have l5 : (sm5.flatMap Ln.cl).length = 35 := rfl
    rw [e5, Array.getElem?_append_left (by rw [List.size_toArray, l5]; omega), List.getElem?_toArray, Nat.zero_add]
  exact ⟨key 0 (by decide), key 1 (by decide), key 2 (by decide), key 3 (by decide), key 4 (by decide), key 5 (by decide), key 6 (by decide)⟩

theorem bel_new (w : World) (o : Obj) : Below w.heap.size w (w.alloc o) := (Below.refl _ w).alloc (Nat.le_refl _) _
theorem bel_two {a b c : World} (h1 : Below a.heap.size a b) (h2 : Below b.heap.size b c) : Below a.heap.size a c := h1.trans (h2.mono h1.size)

set_option maxRecDepth 100000 in
set_option maxHeartbeats 2000000 in
theorem small_is (w : World) (hT : Tabs w) : Calls Tryz.prog 4 #[] w fun e w' => e = .returned (.bool true) ∧ Below w.heap.size w w' := by
  go_enter Tryz.func4, Tryz.ntmps4
  go_wp2_with fail
  refine (jump_any 7 0 1 _).mono ?_; rintro e w1 ⟨rfl, hb1⟩
  go_wp2_with fail
  refine (plain_any 12 2 0 0 0 _).mono ?_; rintro e w2 ⟨rfl, hb2⟩
  go_wp2_with fail
  refine (label_any 1 _).mono ?_; rintro e w3 ⟨rfl, hb3⟩
  go_wp2_with fail
  refine (plain_any 0 0 0 0 0 _).mono ?_; rintro e w4 ⟨rfl, hb4⟩
  have hB4 : Below w.heap.size w w4 := bel_two (bel_two (bel_two hb1 hb2) hb3) hb4
  clear hb1 hb2 hb3 hb4
  go_wp2_with fail
  have hl5 := new_lines w4 sm4
  have hb5 : Below w4.heap.size w4 (w4.alloc (.cells (sm4.flatMap Ln.cl).toArray 38)) := (Below.refl _ _).alloc (Nat.le_refl _) _
  generalize hW5 : w4.alloc (.cells (sm4.flatMap Ln.cl).toArray 38) = w5 at hl5 hb5
  have hW5' : w4.alloc (.cells #[.int .i64 0, .int .i64 7, .int .i64 0, .int .i64 0, .int .i64 0, .int .i64 0, .int .i64 1, .int .i64 0, .int .i64 12, .int .i64 2, .int .i64 0, .int .i64 0, .int .i64 0, .int .i64 0, .int .i64 1, .int .i64 0, .int .i64 0, .int .i64 0, .int .i64 0, .int .i64 0, .int .i64 0, .int .i64 0, .int .i64 0, .int .i64 0, .int .i64 0, .int .i64 0, .int .i64 0, .int .i64 0] 38) = w5 := hW5
  rw [hW5']
  clear hW5 hW5'
  have hB5 : Below w.heap.size w w5 := bel_two hB4 hb5
  refine (assemble_any (some ⟨w4.heap.size, 0, none⟩) 4 w4.heap.size 0 sm4 w5 (by decide) sm4_fitL sm4_fitT hl5).mono ?_
  rintro e w6 ⟨hb6, ⟨n, hn, _⟩ | ⟨_, g6, hg6, hg6', rfl, hi6⟩⟩
  · exact absurd hn (sm4_told n)
  rw [sm4_code] at hi6 ⊢
  have hc6 : IsIns w6 (some ⟨g6, 0, none⟩) g6 0 [⟨7, 0, 0, 0, 2⟩, ⟨12, 2, 0, 0, 0⟩, ⟨0, 0, 0, 0, 0⟩] := ⟨fun _ => rfl, fun _ => hg6', hi6⟩
  clear hi6
  have hl6 := hl5.later hb6
  have hB6 := bel_two hB5 hb6
  clear hl5 hb5 hb6
  go_wp2_with fail
  refine (places_any (some ⟨w4.heap.size, 0, none⟩) 4 w4.heap.size 0 sm4 w6 (by decide) sm4_fitL hl6).mono ?_
  rintro e w7 ⟨hb7, ⟨n, hn, _⟩ | ⟨_, _, g7, cp7, hg7, hg7', rfl, hp7⟩⟩
  · exact absurd hn (sm4_toldP n)
  rw [sm4_places] at hp7 ⊢
  have hq7 : IsPairs w7 (some ⟨g7, 0, none⟩) g7 [(1, 2)] := ⟨fun _ => rfl, fun _ => hg7', hp7⟩
  have hl7 := hl6.later hb7
  have hc7 := hc6.later hb7
  have hB7 := bel_two hB6 hb7
  clear hl6 hc6 hb7 hp7
  go_wp2_with fail
  refine (label_any 1 _).mono ?_; rintro e w8 ⟨rfl, hb8⟩
  have hl8 := hl7.later hb8
  have hc8 := hc7.later hb8
  have hq8 := hq7.later hb8
  have hB8 := bel_two hB7 hb8
  clear hl7 hc7 hq7 hb8
  have hl9 := hl8.later (bel_new w8 (.cells #[.int .i64 1, .int .i64 0, .int .i64 0, .int .i64 0, .int .i64 0, .int .i64 0, .int .i64 0] 38))
  have hc9 := hc8.later (bel_new w8 (.cells #[.int .i64 1, .int .i64 0, .int .i64 0, .int .i64 0, .int .i64 0, .int .i64 0, .int .i64 0] 38))
  have hq9 := hq8.later (bel_new w8 (.cells #[.int .i64 1, .int .i64 0, .int .i64 0, .int .i64 0, .int .i64 0, .int .i64 0, .int .i64 0] 38))
  have hB9 := bel_two hB8 (bel_new w8 (.cells #[.int .i64 1, .int .i64 0, .int .i64 0, .int .i64 0, .int .i64 0, .int .i64 0, .int .i64 0] 38))
  have h19 : IsLines (w8.alloc (.cells #[.int .i64 1, .int .i64 0, .int .i64 0, .int .i64 0, .int .i64 0, .int .i64 0, .int .i64 0] 38)) (some ⟨w8.heap.size, 0, none⟩) w8.heap.size 0 [⟨1, 0, 0, 0, 0, 0, 0⟩] := new_lines w8 [⟨1, 0, 0, 0, 0, 0, 0⟩]
  obtain ⟨cap10, w10, hap, hl10, hb10⟩ := append_full _ 42 w4.heap.size hl9 w8.heap.size 1 h19
  rw [World.size_alloc] at hap hl10
  have HAP : Hid ((Builtin.append_ #[42, 42] 42 #[.slice (some ⟨w4.heap.size, 0, none⟩) 4 4, .slice (some ⟨w8.heap.size, 0, none⟩) 1 1]).run Tryz.prog (w8.alloc (.cells #[.int .i64 1, .int .i64 0, .int .i64 0, .int .i64 0, .int .i64 0, .int .i64 0, .int .i64 0] 38)) = .ok (.slice (some ⟨w8.heap.size + 1, 0, none⟩) 5 cap10) w10) := hap
  have hl10' := hl9.later hb10
  have hc10 := hc9.later hb10
  have hq10 := hq9.later hb10
  have hB10 := bel_two hB9 hb10
  clear hap hl8 hc8 hq8 hl9 hc9 hq9 hB8 hB9 h19 hb10
  go_wp2_with (at_builtin; refine wpList_append_run rfl (.tmp 26) (.tmp 28) 42 rfl rfl rfl HAP.out ?_)
  clear HAP
  refine (assemble_any (some ⟨w8.heap.size + 1, 0, none⟩) cap10 (w8.heap.size + 1) 0 sm5 w10 (by decide) sm5_fitL sm5_fitT hl10).mono ?_
  rintro e w11 ⟨hb11, hcase⟩
  obtain ⟨n, hn, rfl⟩ := hcase.resolve_right (fun h => absurd h.1.once sm5_labs)
  obtain rfl := sm5_told hn
  have hl11 := hl10'.later hb11
  have hc11 := hc10.later hb11
  have hq11 := hq10.later hb11
  have hB11 := bel_two hB10 hb11
  clear hl10 hl10' hc10 hq10 hb11 hB10 hn
  go_wp2_with fail
  have hn12 := new_ins w11 [⟨7, 0, 0, 0, 2⟩, ⟨12, 2, 0, 0, 0⟩, ⟨0, 0, 0, 0, 0⟩]
  have hb12 := bel_new w11 (.cells ([(⟨7, 0, 0, 0, 2⟩ : Ins), ⟨12, 2, 0, 0, 0⟩, ⟨0, 0, 0, 0, 0⟩].flatMap Ins.cells).toArray 31)
  generalize hW12 : w11.alloc (.cells ([(⟨7, 0, 0, 0, 2⟩ : Ins), ⟨12, 2, 0, 0, 0⟩, ⟨0, 0, 0, 0, 0⟩].flatMap Ins.cells).toArray 31) = w12 at hn12 hb12
  have hW12' : w11.alloc (.cells #[.int .i64 7, .int .i64 0, .int .i64 0, .int .i64 0, .int .i64 2, .int .i64 12, .int .i64 2, .int .i64 0, .int .i64 0, .int .i64 0, .int .i64 0, .int .i64 0, .int .i64 0, .int .i64 0, .int .i64 0] 31) = w12 := hW12
  rw [hW12']
  clear hW12 hW12'
  refine (same_rows (l := [⟨7, 0, 0, 0, 2⟩, ⟨12, 2, 0, 0, 0⟩, ⟨0, 0, 0, 0, 0⟩]) (c1 := 3) (c2 := 3) (by decide) (hc11.later hb12) hn12).mono ?_
  rintro e w13 ⟨rfl, hb13⟩
  have hb13' := bel_two hb12 hb13
  have hl13 := hl11.later hb13'
  have hq13 := hq11.later hb13'
  have hB13 := bel_two hB11 hb13'
  clear hl11 hc11 hq11 hb13 hb13' hB11 hb12 hn12
  go_wp2_with fail
  have hn14 : IsPairs (w13.alloc (.cells #[.int .i64 1, .int .i64 2] 49)) (some ⟨w13.heap.size, 0, none⟩) w13.heap.size [(1, 2)] := new_pairs w13 [(1, 2)]
  have hb14 := bel_new w13 (.cells #[.int .i64 1, .int .i64 2] 49)
  refine (same_pairs (l := [(1, 2)]) (c1 := cp7) (c2 := 1) (by decide) (hq13.later hb14) hn14).mono ?_
  rintro e w15 ⟨rfl, hb15⟩
  have hb15' := bel_two hb14 hb15
  have hl15 := hl13.later hb15'
  have hB15 := bel_two hB13 hb15'
  clear hl13 hq13 hb15 hb15' hB13 hb14 hn14
  go_wp2_with fail
  refine (texts_any (some ⟨w4.heap.size, 0, none⟩) 4 w4.heap.size 0 sm4 w15 (hT.on hB15) (by decide) sm4_fitL sm4_fitT hl15).mono ?_
  rintro e w16 ⟨rfl, hb16⟩
  have hB16 := bel_two hB15 hb16
  rw [sm4_texts, show bs [32, 32, 106, 109, 112, 32, 48, 32, 62, 76, 49, 10, 32, 32, 111, 117, 116, 32, 114, 50, 10, 76, 49, 58, 10, 32, 32, 104, 97, 108, 116, 32, 48, 10] = { data := #[32, 32, 106, 109, 112, 32, 48, 32, 62, 76, 49, 10, 32, 32, 111, 117, 116, 32, 114, 50, 10, 76, 49, 58, 10, 32, 32, 104, 97, 108, 116, 32, 48, 10] } from rfl]
  go_wp2_with fail
  refine (const_any 1 1099511627776 (by decide) w16).mono ?_
  rintro e w17 ⟨g17, rfl, _, _, hb17⟩
  rw [show (constL 1 1099511627776).length = 2 from rfl]
  go_wp2_with fail
  go_ret
  exact ⟨rfl, bel_two hB16 hb17⟩

end Go.Proofs.YtbfmadcppnfgpaaGreatDoor
