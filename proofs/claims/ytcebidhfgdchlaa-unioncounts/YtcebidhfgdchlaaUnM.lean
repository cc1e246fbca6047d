/-
  Sets in memory (layer 8): the contract of Class; the laws' small case.
-/
import Derived.Test.YtcebidhfgdchlaaUnL
import Derived.Test.YtcebidhfgdchlaaUnK
import Derived.Test.YtcebidhfgdchlaaUnG
namespace Go.Proofs.Ytcebidhfgdchlaa
open Go.ChangeShapes Go.WideShapes Go.ChangeAt Go.RowKit Go.Shelf Go.Maps

/-- A class as a row: of this key, rising. -/
def IsClass (st : List Th) (k : Int) (l : List Int) : Prop := l.length ≤ st.length ∧ l.Pairwise (· < ·) ∧ ∀ m, m ∈ l ↔ KS st k m

set_option maxRecDepth 100000 in
set_option maxHeartbeats 1000000 in
theorem classp_is (base X mb : Nat) (v : Value) (st : List Th) (k : Int) (hk : Fits k) (hl : st.length ≤ 100000) (w : World) (h : SAt w base X mb v st) :
    Calls Try.prog 14 #[.pointer (some ⟨X, 0, none⟩), .int .i64 k] w fun e w' => ∃ (v' : Value) (l : List Int), e = .returned v' ∧ w'.ownsRow w.heap.size 3 1 v' l.length (intsI l) ∧ Below w.heap.size w w' ∧ IsClass st k l := by
  have HA := hide (place_is base X mb v st k hk w h)
  have HC : Hid (∀ i, i < st.length → (at_ st i).key = k → Calls Try.prog 28 #[.pointer (some ⟨X, 0, none⟩), .int .i64 (i : Int)] w fun e w' => ∃ (v' : Value) (l : List Int), e = .returned v' ∧ w'.ownsRow w.heap.size 3 1 v' l.length (intsI l) ∧ Below w.heap.size w w' ∧ IsClass st k l) := fun i hi hik => by
    obtain ⟨r, hr⟩ := h.uf.tops i hi
    refine (class_is base X mb v st i r hr hl w h).mono ?_
    rintro e w' ⟨v', l, h1, h2, h3, h4, h5, h6⟩
    exact ⟨v', l, h1, h2, h3, h4, h5, fun m => by rw [h6, hik]⟩
  clear h
  go_enter Try.func14, Try.ntmps14
  go_wp2_with fail
  refine HA.out.mono ?_
  clear HA
  rintro e w1 ⟨rfl, ⟨i, hi, hik, rfl⟩ | ⟨hno, rfl⟩⟩
  · have HI := hide (HC.out i hi hik)
    clear HC hi hik
    go_wp2_with fail
    refine HI.out.mono ?_
    clear HI
    rintro e w2 ⟨v', l, rfl, h2, h3, h4⟩
    have HF := hide (And.intro h2 (And.intro h3 h4))
    clear h2 h3 h4
    go_wp2
    go_ret
    exact ⟨v', l, rfl, HF.out.1, HF.out.2.1, HF.out.2.2⟩
  · have HN := hide hno
    clear hno HC
    go_wp2
    go_ret
    exact ⟨.slice none 0 0, [], rfl, World.ownsRow_nil _ _ _ _, Below.refl _ _, Nat.zero_le _, List.Pairwise.nil, fun m => ⟨fun h => by simp at h, fun h => absurd (ks_mem h).1 HN.out⟩⟩
theorem ks_nil (x y : Int) : ¬ KS [] x y := fun ⟨_, _, _, h, _⟩ => absurd h.lt.1 (Nat.not_lt_zero _)

set_option maxRecDepth 100000 in
set_option maxHeartbeats 4000000 in
theorem small_is (w : World) : Calls Try.prog 6 #[] w fun e w' => e = .returned (.bool true) ∧ Below w.heap.size w w' := by
  have HN := hide (new_is w)
  go_enter Try.func6, Try.ntmps6
  go_wp2_with fail
  refine HN.out.mono ?_
  clear HN
  rintro e w1 ⟨rfl, hb1, hS1⟩
  have hs1 := hb1.size
  generalize hX : w.heap.size + 1 = X at *
  generalize hB : w.heap.size = B at *
  have hBX : B ≤ X := by omega
  clear hX
  have HA := hide (addp_is B X B _ [] 3 (by decide) (by decide) w1 (by omega) (fun b => B ≤ b) hBX (Nat.le_refl _) (fun b h => by cases h) (fun b h => by omega) hS1)
  clear hS1
  have HBB := hide hB
  clear hB
  go_wp2_with fail
  refine HA.out.mono ?_
  clear HA
  rintro e w2 ⟨st1, i1, n1, v1, rfl, had, hS2, hT2, hv1⟩
  obtain ⟨k1, m1, r1⟩ := had.ks uf_nil
  have e1 : n1 = true := m1.2 (ks_nil 3 3)
  have l1 := had.len
  have K1 : ∀ x y, KS st1 x y ↔ x = 3 ∧ y = 3 := fun x y => by rw [k1]; exact ⟨fun h => h.elim (fun h => absurd h (ks_nil _ _)) id, .inr⟩
  have R1 : roots st1 = 1 := by rw [r1, e1]; rfl
  subst e1
  have hb2 : Below B w w2 := hT2.below hb1 hs1 (fun b hb h => by omega)
  have hs2 := hT2.size
  have HK1 := hide (And.intro K1 R1)
  have HJ := hide (join_is B X B _ st1 5 2 (by decide) (by decide) (by simp at l1; omega) w2 (by omega) (fun b => B ≤ b) hBX (Nat.le_refl _) hv1 (fun b h => by omega) hS2)
  have HU1 := hide hS2.uf
  have HL1 : Hid (st1.length ≤ 1) := by rw [Hid]; simpa using l1
  clear k1 m1 r1 l1 had hS2 hT2 hb1 K1 R1 hv1
  go_wp2_with fail
  refine HJ.out.mono ?_
  clear HJ
  rintro e w3 ⟨st2, v2, b2, rfl, hS3, hT3, hv2, hJ⟩
  obtain ⟨hU2, l2, E, hE, hK, hres, n1, n2, hn1, hn2, hR⟩ := hJ.ks HU1.out
  obtain ⟨K1, R1⟩ := HK1.out
  have L1 := HL1.out
  have e1 : b2 = true := hres.2 (by rw [hE, K1]; omega)
  have e2 : n1 = true := hn1.2 (by rw [K1]; omega)
  have e3 : n2 = true := hn2.2 (by rw [K1]; omega)
  have hK' : ∀ x y, KS st2 x y ↔ E x y ∨ ((E x 5 ∧ E 2 y) ∨ (E x 2 ∧ E 5 y)) := fun x y => (hK x y).trans ⟨fun h => h.elim .inl (fun h => .inr h.2), fun h => h.elim .inl (fun h => .inr ⟨e1, h⟩)⟩
  have K2 : ∀ x y, KS st2 x y ↔ (x = 3 ∧ y = 3) ∨ ((x = 2 ∨ x = 5) ∧ (y = 2 ∨ y = 5)) := fun x y => by rw [hK' x y, hE, hE, hE, hE, hE, K1, K1, K1, K1, K1]; omega
  have R2 : roots st2 = 2 := by rw [e1, e2, e3, R1] at hR; simp at hR; omega
  subst e1
  have hb3 : Below B w w3 := hT3.below hb2 (by omega) (fun b hb h => by omega)
  have hs3 := hT3.size
  have HK2 := hide (And.intro K2 R2)
  have HJ := hide (join_is B X B _ st2 2 9 (by decide) (by decide) (by omega) w3 (by omega) (fun b => B ≤ b) hBX (Nat.le_refl _) hv2 (fun b h => by omega) hS3)
  have HU2 := hide hU2
  have HL2 : Hid (st2.length ≤ 3) := by rw [Hid]; omega
  clear hK' HK1 HU1 HL1 K1 R1 L1 l2 hE hK hres hn1 hn2 hR e2 e3 hJ hS3 hT3 hv2 K2 R2 hb2 hU2 E n1 n2
  go_wp2_with fail
  refine HJ.out.mono ?_
  clear HJ
  rintro e w4 ⟨st3, v3, b3, rfl, hS4, hT4, hv3, hJ⟩
  obtain ⟨hU3, l3, E, hE, hK, hres, n1, n2, hn1, hn2, hR⟩ := hJ.ks HU2.out
  obtain ⟨K2, R2⟩ := HK2.out
  have L2 := HL2.out
  have e1 : b3 = true := hres.2 (by rw [hE, K2]; omega)
  have e2 : n1 = false := by have : ¬ n1 = true := fun h => absurd (hn1.1 h) (by rw [K2]; omega); simpa using this
  have e3 : n2 = true := hn2.2 (by rw [K2]; omega)
  have hK' : ∀ x y, KS st3 x y ↔ E x y ∨ ((E x 2 ∧ E 9 y) ∨ (E x 9 ∧ E 2 y)) := fun x y => (hK x y).trans ⟨fun h => h.elim .inl (fun h => .inr h.2), fun h => h.elim .inl (fun h => .inr ⟨e1, h⟩)⟩
  have K3 : ∀ x y, KS st3 x y ↔ (x = 3 ∧ y = 3) ∨ ((x = 2 ∨ x = 5 ∨ x = 9) ∧ (y = 2 ∨ y = 5 ∨ y = 9)) := fun x y => by rw [hK' x y, hE, hE, hE, hE, hE, K2, K2, K2, K2, K2]; omega
  have R3 : roots st3 = 2 := by rw [e1, e2, e3, R2] at hR; simp at hR; omega
  subst e1
  have hb4 : Below B w w4 := hT4.below hb3 (by omega) (fun b hb h => by omega)
  have hs4 := hT4.size
  have HK3 := hide (And.intro K3 R3)
  have HJ := hide (join_is B X B _ st3 9 5 (by decide) (by decide) (by omega) w4 (by omega) (fun b => B ≤ b) hBX (Nat.le_refl _) hv3 (fun b h => by omega) hS4)
  have HU3 := hide hU3
  have HL3 : Hid (st3.length ≤ 5) := by rw [Hid]; omega
  clear hK' HK2 HU2 HL2 K2 R2 L2 l3 hE hK hres hn1 hn2 hR e2 e3 hJ hS4 hT4 hv3 K3 R3 hb3 hU3 E n1 n2
  go_wp2_with fail
  refine HJ.out.mono ?_
  clear HJ
  rintro e w5 ⟨st4, v4, b4, rfl, hS5, hT5, hv4, hJ⟩
  obtain ⟨hU4, l4, E, hE, hK, hres, n1, n2, hn1, hn2, hR⟩ := hJ.ks HU3.out
  obtain ⟨K3, R3⟩ := HK3.out
  have L3 := HL3.out
  have e1 : b4 = false := by have : ¬ b4 = true := fun h => absurd (hres.1 h) (by rw [hE, K3]; omega); simpa using this
  have e2 : n1 = false := by have : ¬ n1 = true := fun h => absurd (hn1.1 h) (by rw [K3]; omega); simpa using this
  have e3 : n2 = false := by have : ¬ n2 = true := fun h => absurd (hn2.1 h) (by rw [K3]; omega); simpa using this
  have K4 : ∀ x y, KS st4 x y ↔ (x = 3 ∧ y = 3) ∨ ((x = 2 ∨ x = 5 ∨ x = 9) ∧ (y = 2 ∨ y = 5 ∨ y = 9)) := fun x y => by rw [hK, hE, K3, e1]; simp only [Bool.false_eq_true, false_and, or_false]; omega
  have R4 : roots st4 = 2 := by rw [e1, e2, e3, R3] at hR; simp at hR; omega
  subst e1
  have hb5 : Below B w w5 := hT5.below hb4 (by omega) (fun b hb h => by omega)
  have hs5 := hT5.size
  have hl4 : st4.length ≤ 7 := by omega
  clear HK3 HU3 HL3 K3 R3 L3 l4 hE hK hres hn1 hn2 hR e2 e3 hJ hT5 hv4 hb4 hU4 E n1 n2
  have HF := hide (find_is B X B _ st4 9 (by decide) (by omega) w5 hS5)
  have HK := hide (And.intro K4 R4)
  have HS := hide hS5
  clear K4 R4 hS5
  go_wp2_with fail
  refine HF.out.mono ?_
  clear HF
  rintro e w6 ⟨⟨q, rfl⟩, hf⟩
  have hf' : e = .returned (.tuple #[.int .i64 2, .bool true]) := by
    have K4 := HK.out.1
    rcases hf with ⟨hno, _⟩ | ⟨m, ⟨h1, h2⟩, rfl⟩
    · exact absurd ((ks_self HS.out.uf 9).1 ((K4 9 9).2 (by omega))) hno
    · rw [K4] at h1
      have := h2 2 ((K4 9 2).2 (by omega))
      have : m = 2 := by omega
      rw [this]
  subst hf'
  clear hf
  have HSq : Hid (SAt (w5.drewN q) B X B v4 st4) := HS.out.turns (Q := fun _ => False) ⟨rfl, rfl, rfl, Nat.le_refl _, fun _ _ _ => rfl⟩ (fun h => h) (fun h => h) (fun _ _ h => h)
  have hbq : Below B w (w5.drewN q) := hb5.trans ⟨rfl, rfl, rfl, Nat.le_refl _, fun _ _ => rfl⟩
  have hsq : B ≤ (w5.drewN q).heap.size := by show B ≤ w5.heap.size; omega
  clear HS hb5
  generalize w5.drewN q = w6 at *
  have HC := hide (classp_is B X B _ st4 5 (by decide) (by omega) w6 HSq.out)
  go_wp2_with fail
  refine HC.out.mono ?_
  clear HC
  rintro e w7 ⟨v7, l, rfl, ho, hb7, -, hp, hm⟩
  have hl : l = [2, 5, 9] := by
    refine riseI_ext hp (by decide) (fun t => ?_)
    rw [hm, HK.out.1]
    simp only [List.mem_cons, List.not_mem_nil, or_false, true_or, or_true, true_and]
    omega
  subst hl
  have hs7 := hb7.size
  have hr7 := RowN.of_ownsI ho
  have hS7 := HSq.out.below hb7
  have hbw7 : Below B w w7 := hbq.trans (hb7.mono hsq)
  clear HSq ho hp hm hb7 hbq
  have k8 := World.alloc_heap_new w7 (.cells #[.int .i64 2, .int .i64 5, .int .i64 9] 3)
  have hn8 : RowN (w7.alloc (.cells #[.int .i64 2, .int .i64 5, .int .i64 9] 3)) (.slice (some ⟨w7.heap.size, 0, none⟩) 3 3) [2, 5, 9] := RowN.of_block (xs := [2, 5, 9]) k8 rfl
  have HI := hide (ints_same (W := w7.alloc (.cells #[.int .i64 2, .int .i64 5, .int .i64 9] 3)) (xs := [2, 5, 9]) (by decide) (hr7.below (bel_new w7 _)) hn8)
  have HS7 := hide hS7
  clear hn8 k8 hr7 hS7
  go_wp2_with fail
  refine HI.out.mono ?_
  clear HI
  rintro e w8 ⟨rfl, hq8⟩
  have hb8 := bel_two (bel_new w7 _) (bel_q hq8)
  clear hq8
  have hS8 := HS7.out.below hb8
  have hbw8 : Below B w w8 := hbw7.trans (hb8.mono (by omega))
  have hR := HK.out.2
  have HLn := hide (len_is B X B _ st4 w8 hS8)
  rw [hR] at HLn
  have H1 := hide (same_is B X B _ st4 2 9 (by decide) (by decide) (by omega) w8 hS8)
  rw [ksB_true ((HK.out.1 2 9).2 (by omega))] at H1
  have H2 := hide (same_is B X B _ st4 3 2 (by decide) (by decide) (by omega) w8 hS8)
  rw [ksB_false (fun h => absurd ((HK.out.1 3 2).1 h) (by omega))] at H2
  have H3 := hide (same_is B X B _ st4 7 7 (by decide) (by decide) (by omega) w8 hS8)
  rw [ksB_false (fun h => absurd ((HK.out.1 7 7).1 h) (by omega))] at H3
  clear HS7 hb8 hS8 hbw7 hR HK
  go_wp2_with fail
  refine HLn.out.mono ?_
  clear HLn
  rintro e w9 ⟨rfl, rfl⟩
  go_wp2_with fail
  refine H1.out.mono ?_
  clear H1
  rintro e w10 ⟨rfl, rfl⟩
  go_wp2_with fail
  refine H2.out.mono ?_
  clear H2
  rintro e w11 ⟨rfl, rfl⟩
  go_wp2_with fail
  refine H3.out.mono ?_
  clear H3
  rintro e w12 ⟨rfl, rfl⟩
  go_wp2
  go_ret
  exact ⟨rfl, by rw [HBB.out]; exact hbw8⟩

end Go.Proofs.Ytcebidhfgdchlaa
