/-
  Sets in memory (layer 8): the contract of Join.
-/
import Derived.Test.YtcebidhfgdchlaaUnA
import Derived.Deep.RegionHeldLaw
namespace Go.Proofs.Ytcebidhfgdchlaa
open Go.ChangeShapes Go.WideShapes Go.ChangeAt Go.RowKit Go.Shelf Go.Maps

/-- One cell of a row is another. -/
theorem row_set {W : World} {base : Nat} {e : TypeId} {TB n cap : Nat} {xs : List Value} (h : W.ownsRow base e 5 (.slice (some ⟨TB, 0, none⟩) n cap) n xs) (p : Nat) (u : Value) : (W.setCell ⟨TB, p, none⟩ u).ownsRow base e 5 (.slice (some ⟨TB, 0, none⟩) n cap) n (xs.set p u) := by
  refine ⟨by rw [List.length_set]; exact h.1, .inr ?_⟩
  rcases h.2 with ⟨e1, _⟩ | ⟨g, cp, cur, e1, a1, a2, a3, a4, a5, a6⟩
  · cases e1
  · injection e1 with e1 e2 e3
    injection e1 with e1
    injection e1 with e1
    subst e1 e3
    refine ⟨TB, cap, cur.setIfInBounds p u, rfl, a1, heap_set_same' a2 p u, a3, a4, by rw [Array.size_setIfInBounds]; exact a5, ?_⟩
    rw [Array.toList_setIfInBounds, List.take_set, a6]
theorem flat_ext {xs : List Value} {st : List Th} (hl : xs.length = st.length * 5) (h : ∀ j f, j < st.length → f < 5 → xs[j * 5 + f]? = (tcells (at_ st j))[f]?) : xs = st.flatMap tcells := by
  apply List.ext_getElem?
  intro q
  by_cases hq : q < st.length * 5
  · have h1 : q / 5 < st.length := by omega
    have h2 : q % 5 < 5 := Nat.mod_lt _ (by decide)
    have h3 : q / 5 * 5 + q % 5 = q := by omega
    have := h (q / 5) (q % 5) h1 h2
    rw [← flat_get st (q / 5) (q % 5) h1 h2, h3] at this
    exact this
  · rw [List.getElem?_eq_none (by omega), List.getElem?_eq_none (by rw [flat_len]; omega)]
/-- The cells of two joined classes. -/
theorem flat_joined (st : List Th) {T L : Nat} (hT : T < st.length) (hL : L < st.length) (hTL : T ≠ L) :
    ((((((st.flatMap tcells).set (L * 5 + 1) (.int .i64 (T : Int))).set (T * 5 + 3) (.int .i64 ((at_ st T).size + (at_ st L).size : Int))).set (T * 5 + 4) (.int .i64 (min (at_ st T).least (at_ st L).least))).set (T * 5 + 2) (.int .i64 ((at_ st L).next : Int))).set (L * 5 + 2) (.int .i64 ((at_ st T).next : Int))) = (joined st T L).flatMap tcells := by
  refine flat_ext (by simp only [List.length_set, flat_len, joined_len]) fun j f hj hf => ?_
  rw [joined_len] at hj
  have hlen := flat_len st
  have g := flat_get st j f hj hf
  rw [joined_at st hT hL]
  simp only [List.getElem?_set, List.length_set, hlen]
  have hf' : f = 0 ∨ f = 1 ∨ f = 2 ∨ f = 3 ∨ f = 4 := by omega
  by_cases e1 : j = T
  · subst e1
    rw [if_pos rfl]
    rcases hf' with rfl | rfl | rfl | rfl | rfl
    · rw [if_neg (by omega), if_neg (by omega), if_neg (by omega), if_neg (by omega), if_neg (by omega)]; exact g
    · rw [if_neg (by omega), if_neg (by omega), if_neg (by omega), if_neg (by omega), if_neg (by omega)]; exact g
    · rw [if_neg (by omega), if_pos rfl, if_pos (by omega)]; rfl
    · rw [if_neg (by omega), if_neg (by omega), if_neg (by omega), if_pos rfl, if_pos (by omega)]; simp
    · rw [if_neg (by omega), if_neg (by omega), if_pos rfl, if_pos (by omega)]; rfl
  · rw [if_neg e1]
    by_cases e2 : j = L
    · subst e2
      rw [if_pos rfl]
      rcases hf' with rfl | rfl | rfl | rfl | rfl
      · rw [if_neg (by omega), if_neg (by omega), if_neg (by omega), if_neg (by omega), if_neg (by omega)]; exact g
      · rw [if_neg (by omega), if_neg (by omega), if_neg (by omega), if_neg (by omega), if_pos rfl, if_pos (by omega)]; rfl
      · rw [if_pos rfl, if_pos (by omega)]; rfl
      · rw [if_neg (by omega), if_neg (by omega), if_neg (by omega), if_neg (by omega), if_neg (by omega)]; exact g
      · rw [if_neg (by omega), if_neg (by omega), if_neg (by omega), if_neg (by omega), if_neg (by omega)]; exact g
    · rw [if_neg e2, if_neg (by omega), if_neg (by omega), if_neg (by omega), if_neg (by omega), if_neg (by omega)]; exact g

theorem turns_drew' (Q : Nat → Prop) (W : World) : Turns Q W W.drew := ⟨rfl, rfl, rfl, Nat.le_refl _, fun _ _ _ => rfl⟩
theorem owns_drew {W : World} {base : Nat} {e : TypeId} {size : Nat} {v : Value} {n : Nat} {xs : List Value} (h : W.ownsRow base e size v n xs) : W.drew.ownsRow base e size v n xs := owns_turns h (turns_drew' (fun _ => False) W) (fun _ _ h => h)
theorem joined_key {st : List Th} {T L : Nat} (hT : T < st.length) (hL : L < st.length) (j : Nat) : (at_ (joined st T L) j).key = (at_ st j).key := by
  rw [joined_at st hT hL]
  by_cases e1 : j = T
  · rw [if_pos e1, e1]
  · rw [if_neg e1]
    by_cases e2 : j = L
    · rw [if_pos e2, e2]
    · rw [if_neg e2]
theorem joined_keys {st : List Th} {T L : Nat} (hT : T < st.length) (hL : L < st.length) : (joined st T L).map Th.key = st.map Th.key := by
  apply List.ext_getElem?
  intro j
  rw [List.getElem?_map, List.getElem?_map]
  by_cases hj : j < st.length
  · have := joined_key hT hL j
    unfold at_ at this
    rw [List.getD_eq_getElem?_getD, List.getD_eq_getElem?_getD, List.getElem?_eq_getElem hj, List.getElem?_eq_getElem (by rw [joined_len]; exact hj)] at this
    rw [List.getElem?_eq_getElem hj, List.getElem?_eq_getElem (by rw [joined_len]; exact hj)]
    simpa using this
  · rw [List.getElem?_eq_none (by rw [joined_len]; omega), List.getElem?_eq_none (by omega)]
/-- How a join comes out. -/
def JoinR (st : List Th) (a b : Int) (st' : List Th) (res : Bool) : Prop := ∃ (st1 : List Th) (i : Nat) (n1 : Bool) (st2 : List Th) (j : Nat) (n2 : Bool), Added st a st1 i n1 ∧ Added st1 b st2 j n2 ∧ i < st2.length ∧ (at_ st2 i).key = a ∧
  ((res = false ∧ st' = st2 ∧ ∃ r, Top st2 i r ∧ Top st2 j r) ∨ (res = true ∧ ∃ T L, T ≠ L ∧ ((Top st2 i T ∧ Top st2 j L) ∨ (Top st2 i L ∧ Top st2 j T)) ∧ st' = joined st2 T L))
theorem Added.keep {st st' : List Th} {k : Int} {i : Nat} {n : Bool} (h : Added st k st' i n) {j : Nat} (hj : j < st.length) : j < st'.length ∧ at_ st' j = at_ st j := by
  rcases h.2.2.2 with ⟨_, rfl⟩ | ⟨_, _, rfl⟩
  · exact ⟨hj, rfl⟩
  · exact ⟨by simp [lone]; omega, lone_at hj⟩
theorem Added.len {st st' : List Th} {k : Int} {i : Nat} {n : Bool} (h : Added st k st' i n) : st'.length ≤ st.length + 1 := by
  rcases h.2.2.2 with ⟨_, rfl⟩ | ⟨_, _, rfl⟩
  · omega
  · simp [lone]

set_option maxRecDepth 100000 in
set_option maxHeartbeats 8000000 in
theorem join_is (base X mb : Nat) (v : Value) (st : List Th) (a b : Int) (ha : Fits a) (hb : Fits b) (hl : st.length ≤ 50000) (w : World) (hbase : base ≤ w.heap.size) (G : Nat → Prop) (hGX : G X) (hGm : G mb) (hGv : ∀ b, v.ownBlock = some b → G b) (hGn : ∀ b, w.heap.size ≤ b → G b) (h : SAt w base X mb v st) :
    Calls Try.prog 9 #[.pointer (some ⟨X, 0, none⟩), .int .i64 a, .int .i64 b] w fun e w' => ∃ (st' : List Th) (v' : Value) (res : Bool), e = .returned (.bool res) ∧ SAt w' base X mb v' st' ∧ Turns G w w' ∧ (∀ b, v'.ownBlock = some b → G b) ∧ JoinR st a b st' res := by
  have HA1 := hide (add_is base X mb v st a ha (by omega) w hbase G hGX hGm hGv hGn h)
  clear h
  go_enter Try.func9, Try.ntmps9
  go_wp2_with fail
  refine HA1.out.mono ?_
  clear HA1
  rintro e w1 ⟨st1, i, n1, v1, rfl, had1, hS1, hT1, hN1⟩
  have hl1 := had1.len
  have hs1 := hT1.size
  have HA2 := hide (add_is base X mb v1 st1 b hb (by omega) w1 (by omega) G hGX hGm hN1 (fun b hb' => hGn b (by omega)) hS1)
  clear hS1
  go_wp2_with fail
  refine HA2.out.mono ?_
  clear HA2
  rintro e w2 ⟨st2, j, n2, v2, rfl, had2, hS2, hT2, hN2⟩
  have hl2 := had2.len
  have hs2 := hT2.size
  have hi2 := had2.keep had1.2.1
  have hik : (at_ st2 i).key = a := by rw [hi2.2]; exact had1.2.2.1
  have hj2 := had2.2.1
  obtain ⟨ti, hti⟩ := hS2.uf.tops i hi2.1
  obtain ⟨tj, htj⟩ := hS2.uf.tops j hj2
  have HT1 := hide (top_is base X mb v2 st2 i ti hti (by omega) w2 hS2)
  have HT2 := hide (top_is base X mb v2 st2 j tj htj (by omega) w2 hS2)
  have HS2 := hide hS2
  have HTT : Hid (Turns G w w2) := hT1.trans hT2
  have HN2 := hide hN2
  have HGX := hide hGX
  have HJ : Hid (∀ st' res, ((res = false ∧ st' = st2 ∧ ∃ r, Top st2 i r ∧ Top st2 j r) ∨ (res = true ∧ ∃ T L, T ≠ L ∧ ((Top st2 i T ∧ Top st2 j L) ∨ (Top st2 i L ∧ Top st2 j T)) ∧ st' = joined st2 T L)) → JoinR st a b st' res) := fun st' res hh => ⟨st1, i, n1, st2, j, n2, had1, had2, hi2.1, hik, hh⟩
  clear hS2 hT1 hT2 had1 had2 hik hN1 hN2 hGX hGm hGv hGn
  go_wp2_with fail
  refine HT1.out.mono ?_
  clear HT1
  rintro e w3 ⟨rfl, rfl⟩
  go_wp2_with fail
  refine HT2.out.mono ?_
  clear HT2
  rintro e w4 ⟨rfl, rfl⟩
  by_cases htt : ti = tj
  · subst htt
    have HF := hide (HJ.out st2 false (.inl ⟨rfl, rfl, ti, hti, htj⟩))
    clear HJ hti htj
    go_wp2
    go_ret
    exact ⟨st2, v2, false, rfl, HS2.out, HTT.out, HN2.out, HF.out⟩
  · have q1 : ((ti : Int) == (tj : Int)) = false := beq_eq_false_iff_ne.2 (by omega)
    have q1' : ((ti : Int) = (tj : Int)) = False := eq_false (by omega)
    obtain ⟨_, htil, htir⟩ := hti.lt
    obtain ⟨_, htjl, htjr⟩ := htj.lt
    obtain ⟨TB, cap, hve, -, -, -⟩ := HS2.out.cell htil
    subst hve
    have HCL : Hid (∀ k f, k < st2.length → f < 5 → w4.cell? ⟨TB, k * 5 + f, none⟩ = (tcells (at_ st2 k))[f]?) := fun k f hk hf => by
      obtain ⟨TB', cap', e, _, _, hc⟩ := HS2.out.cell hk
      injection e with e1
      injection e1 with e1
      injection e1 with e1
      subst e1
      exact hc f hf
    have c2 : w4.cell? ⟨X, 2, none⟩ = some (.slice (some ⟨TB, 0, none⟩) st2.length cap) := cell_of HS2.out.box 2
    have s3 : w4.cell? ⟨TB, ti * 5 + 3, none⟩ = some (.int .i64 ((at_ st2 ti).size : Int)) := HCL.out ti 3 htil (by decide)
    have s4 : w4.cell? ⟨TB, tj * 5 + 3, none⟩ = some (.int .i64 ((at_ st2 tj).size : Int)) := HCL.out tj 3 htjl (by decide)
    have hti' : ((ti : Int) < (st2.length : Int)) = True := eq_true (by omega)
    have htj' : ((tj : Int) < (st2.length : Int)) = True := eq_true (by omega)
    have htib : ti ≤ 100000 := by omega
    have htjb : tj ≤ 100000 := by omega
    obtain ⟨T, L, HTL, hsz⟩ : ∃ T L, Hid (T ≠ L ∧ T < st2.length ∧ L < st2.length ∧ (at_ st2 T).above = T ∧ (at_ st2 L).above = L ∧ ((Top st2 i T ∧ Top st2 j L) ∨ (Top st2 i L ∧ Top st2 j T))) ∧ ((¬ (at_ st2 ti).size < (at_ st2 tj).size ∧ T = ti ∧ L = tj) ∨ ((at_ st2 ti).size < (at_ st2 tj).size ∧ T = tj ∧ L = ti)) := by
      by_cases hlt : (at_ st2 ti).size < (at_ st2 tj).size
      · exact ⟨tj, ti, ⟨Ne.symm htt, htjl, htil, htjr, htir, .inr ⟨hti, htj⟩⟩, .inr ⟨hlt, rfl, rfl⟩⟩
      · exact ⟨ti, tj, ⟨htt, htil, htjl, htir, htjr, .inl ⟨hti, htj⟩⟩, .inl ⟨hlt, rfl, rfl⟩⟩
    have HFZ : Hid (∀ p, w4.frozen? ⟨TB, p, none⟩ = false) := fun p => by
      rcases HS2.out.row.2 with ⟨e1, _⟩ | ⟨g, cp, cur, e1, _, e2, _⟩
      · cases e1
      · injection e1 with e1
        injection e1 with e1
        injection e1 with e1
        subst e1
        exact frozen_of e2 p
    clear hti htj htir htjr
    rcases hsz with ⟨hlt, rfl, rfl⟩ | ⟨hlt, rfl, rfl⟩
    · have q2 : (((at_ st2 T).size : Int) < ((at_ st2 L).size : Int)) = False := eq_false (by omega)
      have q2' : ((at_ st2 T).size < (at_ st2 L).size) = False := eq_false hlt
      clear hlt
      have hx := HCL.out L 1 htjl (by decide)
      have s1L : w4.cell? ⟨TB, L * 5 + 1, none⟩ = some (.int .i64 ((at_ st2 L).above : Int)) := hx
      clear hx
      have fL := HFZ.out (L * 5 + 1)
      generalize at_ st2 T = aT at s3 q2 q2'
      generalize at_ st2 L = aL at s4 q2 q2' s1L
      go_wp2
      go_quiet (fail)
      go_wp2
      refine wp_region_held_drew (S := fun w' => w'.cell? ⟨X, 2, none⟩ = some (.slice (some ⟨TB, 0, none⟩) st2.length cap)) (by kernel_rfl) c2 (fun hHeld => ?_)
      refine wpAnyH_take (i := 0) (v := ?_) rfl (by kernel_rfl) (by kernel_rfl) (by kernel_rfl) (fun _ _ _ h => h) (Or.inl ⟨by rfl, ?_⟩) hHeld ?_
      rotate_left 1
      · intro w hSw; (try dsimp only at hSw); go_simp; try with_reducible rfl
      refine wpAnyH_take (i := 1) (v := ?_) rfl (by kernel_rfl) (by kernel_rfl) (by kernel_rfl) (fun _ _ _ h => h) (Or.inl ⟨by rfl, ?_⟩) hHeld ?_
      rotate_left 1
      · intro w hSw; (try dsimp only at hSw); go_simp; try with_reducible rfl
      refine wpAnyH_take (i := 2) (v := ?_) rfl (by kernel_rfl) (by kernel_rfl) (by kernel_rfl) (fun _ _ _ h => h) (Or.inl ⟨by rfl, ?_⟩) hHeld ?_
      rotate_left 1
      · intro w hSw; (try dsimp only at hSw); go_simp; try with_reducible rfl
      refine wpAnyH_take (i := 3) (v := ?_) rfl (by kernel_rfl) (by kernel_rfl) (by kernel_rfl) (fun _ _ _ h => h) (Or.inl ⟨by rfl, ?_⟩) hHeld ?_
      rotate_left 1
      · intro w hSw; (try dsimp only at hSw); go_simp; try with_reducible rfl
      refine wpAnyH_take (i := 4) (v := ?_) rfl (by kernel_rfl) (by kernel_rfl) (by kernel_rfl) (fun _ _ _ h => h) (Or.inl ⟨by rfl, ?_⟩) hHeld ?_
      rotate_left 1
      · intro w hSw; (try dsimp only at hSw); go_simp; try with_reducible rfl
      refine wpAnyH_take (i := 5) (v := ?_) rfl (by kernel_rfl) (by kernel_rfl) (by kernel_rfl) (fun _ _ _ h => h) (Or.inl ⟨by rfl, ?_⟩) hHeld ?_
      rotate_left 1
      · intro w hSw; (try dsimp only at hSw); go_simp; try with_reducible rfl
      refine wpAnyH_take (i := 6) (v := ?_) rfl (by kernel_rfl) (by kernel_rfl) (by kernel_rfl) (fun _ _ _ h => h) (Or.inl ⟨by rfl, ?_⟩) hHeld ?_
      rotate_left 1
      · intro w hSw; (try dsimp only at hSw); go_simp; try with_reducible rfl
      refine wpAnyH_take (i := 7) (v := ?_) rfl (by kernel_rfl) (by kernel_rfl) (by kernel_rfl) (fun _ _ _ h => h) (Or.inl ⟨by rfl, ?_⟩) hHeld ?_
      rotate_left 1
      · intro w hSw; (try dsimp only at hSw); go_simp; try with_reducible rfl
      refine wpAnyH_take (i := 8) (v := ?_) rfl (by kernel_rfl) (by kernel_rfl) (by kernel_rfl) (fun _ _ _ h => h) (Or.inl ⟨by rfl, ?_⟩) hHeld ?_
      rotate_left 1
      · intro w hSw; (try dsimp only at hSw); go_simp; try with_reducible rfl
      refine wpAnyH_take (i := 9) (v := ?_) rfl (by kernel_rfl) (by kernel_rfl) (by kernel_rfl) (fun _ _ _ h => h) (Or.inl ⟨by rfl, ?_⟩) hHeld ?_
      rotate_left 1
      · intro w hSw; (try dsimp only at hSw); go_simp; try with_reducible rfl
      refine wpAnyH_take (i := 10) (v := ?_) rfl (by kernel_rfl) (by kernel_rfl) (by kernel_rfl) (fun _ _ _ h => h) (Or.inl ⟨by rfl, ?_⟩) hHeld ?_
      rotate_left 1
      · intro w hSw; (try dsimp only at hSw); go_simp; try with_reducible rfl
      refine wpAnyH_take (i := 11) (v := ?_) rfl (by kernel_rfl) (by kernel_rfl) (by kernel_rfl) (fun _ _ _ h => h) (Or.inl ⟨by rfl, ?_⟩) hHeld ?_
      rotate_left 1
      · intro w hSw; (try dsimp only at hSw); go_simp; try with_reducible rfl
      refine wpAnyH_take (i := 12) (v := ?_) rfl (by kernel_rfl) (by kernel_rfl) (by kernel_rfl) (fun _ _ _ h => h) (Or.inl ⟨by rfl, ?_⟩) hHeld ?_
      rotate_left 1
      · intro w hSw; (try dsimp only at hSw); go_simp; try with_reducible rfl
      refine wpAnyH_take (i := 13) (v := ?_) rfl (by kernel_rfl) (by kernel_rfl) (by kernel_rfl) (fun _ _ _ h => h) (Or.inl ⟨by rfl, ?_⟩) hHeld ?_
      rotate_left 1
      · intro w hSw; (try dsimp only at hSw); go_simp; try with_reducible rfl
      refine wpAnyH_done (by kernel_rfl) ?_ _
      go_wp2
      have hS0 : SAt (w4.drewN (nq + 1)) base X mb (.slice (some ⟨TB, 0, none⟩) st2.length cap) st2 := HS2.out.turns (Q := fun _ => False) ⟨rfl, rfl, rfl, Nat.le_refl _, fun _ _ _ => rfl⟩ (fun h => h) (fun h => h) (fun _ _ h => h)
      have hT0 : Turns G w (w4.drewN (nq + 1)) := HTT.out.trans ⟨rfl, rfl, rfl, Nat.le_refl _, fun _ _ _ => rfl⟩
      have hfz0 : ∀ p, (w4.drewN (nq + 1)).frozen? ⟨TB, p, none⟩ = false := HFZ.out
      clear HFZ HCL HS2 HTT s3 s4 s1L fL c2
      generalize w4.drewN (nq + 1) = W0 at *
      have row0 := hS0.row
      have row1 := row_set row0 (L * 5 + 1) (.int .i64 (T : Int))
      obtain ⟨hTLn, hTl, hLl, hTr, hLr, hor⟩ := HTL.out
      have gt : ∀ (k f : Nat), k < st2.length → f < 5 → (st2.flatMap tcells)[k * 5 + f]? = (tcells (at_ st2 k))[f]? := fun k f hk hf => flat_get st2 k f hk hf
      have HC1 : Hid (∀ p, p < st2.length * 5 → (W0.setCell ⟨TB, L * 5 + 1, none⟩ (.int .i64 (T : Int))).cell? ⟨TB, p, none⟩ = ((st2.flatMap tcells).set (L * 5 + 1) (.int .i64 (T : Int)))[p]?) := fun p hp => row1.cellAt p hp
      have k3T : (W0.setCell ⟨TB, L * 5 + 1, none⟩ (.int .i64 (T : Int))).cell? ⟨TB, T * 5 + 3, none⟩ = some (.int .i64 ((at_ st2 T).size : Int)) := by
        rw [HC1.out _ (by omega), List.getElem?_set_ne (by omega), gt T 3 hTl (by decide)]; rfl
      have k3L : (W0.setCell ⟨TB, L * 5 + 1, none⟩ (.int .i64 (T : Int))).cell? ⟨TB, L * 5 + 3, none⟩ = some (.int .i64 ((at_ st2 L).size : Int)) := by
        rw [HC1.out _ (by omega), List.getElem?_set_ne (by omega), gt L 3 hLl (by decide)]; rfl
      have fz1 : (W0.setCell ⟨TB, L * 5 + 1, none⟩ (.int .i64 (T : Int))).frozen? ⟨TB, T * 5 + 3, none⟩ = false := (World.frozen?_setCell _ _ _ _).trans (hfz0 _)
      have k4T : (W0.setCell ⟨TB, L * 5 + 1, none⟩ (.int .i64 (T : Int))).cell? ⟨TB, T * 5 + 4, none⟩ = some (.int .i64 (at_ st2 T).least) := by
        rw [HC1.out _ (by omega), List.getElem?_set_ne (by omega), gt T 4 hTl (by decide)]; rfl
      have k4L : (W0.setCell ⟨TB, L * 5 + 1, none⟩ (.int .i64 (T : Int))).cell? ⟨TB, L * 5 + 4, none⟩ = some (.int .i64 (at_ st2 L).least) := by
        rw [HC1.out _ (by omega), List.getElem?_set_ne (by omega), gt L 4 hLl (by decide)]; rfl
      have k2T : (W0.setCell ⟨TB, L * 5 + 1, none⟩ (.int .i64 (T : Int))).cell? ⟨TB, T * 5 + 2, none⟩ = some (.int .i64 ((at_ st2 T).next : Int)) := by
        rw [HC1.out _ (by omega), List.getElem?_set_ne (by omega), gt T 2 hTl (by decide)]; rfl
      have k2L : (W0.setCell ⟨TB, L * 5 + 1, none⟩ (.int .i64 (T : Int))).cell? ⟨TB, L * 5 + 2, none⟩ = some (.int .i64 ((at_ st2 L).next : Int)) := by
        rw [HC1.out _ (by omega), List.getElem?_set_ne (by omega), gt L 2 hLl (by decide)]; rfl
      have hfz1 : ∀ p, (W0.setCell ⟨TB, L * 5 + 1, none⟩ (.int .i64 (T : Int))).frozen? ⟨TB, p, none⟩ = false := fun p => (World.frozen?_setCell _ _ _ _).trans (hfz0 _)
      have hsb : (at_ st2 T).size ≤ 1000000 ∧ (at_ st2 L).size ≤ 1000000 := ⟨by have := (hS0.uf.pos T hTl).2; omega, by have := (hS0.uf.pos L hLl).2; omega⟩
      have HFL := hide (flat_joined st2 hTl hLl hTLn)
      have HRW1 := hide row1
      have HSX := hide (And.intro hS0 hT0)
      clear hfz0 row0 gt HC1 row1 hS0 hT0 hor fz1
      generalize hW1 : W0.setCell ⟨TB, L * 5 + 1, none⟩ (.int .i64 (T : Int)) = W1 at *
      have HW1 := hide hW1
      clear hW1
      generalize hsT : (at_ st2 T).size = sT at *
      generalize hsL : (at_ st2 L).size = sL at *
      have HSZ := hide (And.intro hsT hsL)
      clear hsT hsL
      -- the size
      have hne : ∀ p q : Nat, p ≠ q → (⟨TB, p, none⟩ : Addr) ≠ ⟨TB, q, none⟩ := fun p q h e => by injection e; omega
      have hwr : IntKind.i64.wrap ((sT : Int) + (sL : Int)) = (sT : Int) + (sL : Int) := IntWalk.i64_in _ (by omega)
      have HSL10 : Hid ((W1.setCell ⟨TB, T * 5 + 3, none⟩ (.int .i64 ((sT : Int) + (sL : Int)))).cell? ⟨TB, L * 5 + 3, none⟩ = some (.int .i64 (sL : Int))) := (World.cell?_setCell_other _ _ _ _ (hne _ _ (by omega))).trans k3L
      have HK2 : Hid ((W1.setCell ⟨TB, T * 5 + 3, none⟩ (.int .i64 ((sT : Int) + (sL : Int)))).drew.cell? ⟨TB, T * 5 + 4, none⟩ = some (.int .i64 (at_ st2 T).least) ∧ (W1.setCell ⟨TB, T * 5 + 3, none⟩ (.int .i64 ((sT : Int) + (sL : Int)))).drew.cell? ⟨TB, L * 5 + 4, none⟩ = some (.int .i64 (at_ st2 L).least) ∧ (W1.setCell ⟨TB, T * 5 + 3, none⟩ (.int .i64 ((sT : Int) + (sL : Int)))).drew.cell? ⟨TB, T * 5 + 2, none⟩ = some (.int .i64 ((at_ st2 T).next : Int)) ∧ (W1.setCell ⟨TB, T * 5 + 3, none⟩ (.int .i64 ((sT : Int) + (sL : Int)))).drew.cell? ⟨TB, L * 5 + 2, none⟩ = some (.int .i64 ((at_ st2 L).next : Int)) ∧ (∀ p, (W1.setCell ⟨TB, T * 5 + 3, none⟩ (.int .i64 ((sT : Int) + (sL : Int)))).drew.frozen? ⟨TB, p, none⟩ = false)) :=
        ⟨(World.cell?_setCell_other _ _ _ _ (hne _ _ (by omega))).trans k4T, (World.cell?_setCell_other _ _ _ _ (hne _ _ (by omega))).trans k4L, (World.cell?_setCell_other _ _ _ _ (hne _ _ (by omega))).trans k2T, (World.cell?_setCell_other _ _ _ _ (hne _ _ (by omega))).trans k2L, fun p => (World.frozen?_setCell _ _ _ _).trans (hfz1 p)⟩
      have HR2 := hide (owns_drew (row_set HRW1.out (T * 5 + 3) (.int .i64 ((sT : Int) + (sL : Int)))))
      have HT2 : Hid (Turns (fun b => b = TB) W1 (W1.setCell ⟨TB, T * 5 + 3, none⟩ (.int .i64 ((sT : Int) + (sL : Int)))).drew) := (Turns.setCell (Q := fun b => b = TB) _ ⟨TB, T * 5 + 3, none⟩ _ rfl).trans (turns_drew' _ _)
      have z3 := hfz1 (T * 5 + 3)
      clear hfz1 k4T k4L k2T k2L HRW1
      refine wp_region_held_drew (S := fun w' => w'.cell? ⟨TB, L * 5 + 3, none⟩ = some (.int .i64 (sL : Int))) (by kernel_rfl) k3L (fun hHeld => ?_)
      refine wpAnyH_take (i := 0) (v := ?_) rfl (by kernel_rfl) (by kernel_rfl) (by kernel_rfl) (fun _ _ _ h => h) (Or.inl ⟨by rfl, ?_⟩) hHeld ?_
      rotate_left 1
      · intro w hSw; (try dsimp only at hSw); go_simp; try with_reducible rfl
      refine wpAnyH_take (i := 1) (v := ?_) rfl (by kernel_rfl) (by kernel_rfl) (by kernel_rfl) (fun _ _ _ h => h) (Or.inl ⟨by rfl, ?_⟩) hHeld ?_
      rotate_left 1
      · intro w hSw; (try dsimp only at hSw); go_simp; try with_reducible rfl
      refine wpAnyH_take (i := 2) (v := ?_) rfl (by kernel_rfl) (by kernel_rfl) (by kernel_rfl) (fun _ _ _ h => h) (Or.inl ⟨by rfl, ?_⟩) hHeld ?_
      rotate_left 1
      · intro w hSw; (try dsimp only at hSw); go_simp; try with_reducible rfl
      refine wpAnyH_take (i := 4) (v := ?_) rfl (by kernel_rfl) (by kernel_rfl) (by kernel_rfl) (fun _ _ _ h => h) (Or.inl ⟨by rfl, ?_⟩) hHeld ?_
      rotate_left 1
      · intro w hSw; (try dsimp only at hSw); go_simp; try with_reducible rfl
      refine wpAnyH_take (i := 5) (v := ?_) rfl (by kernel_rfl) (by kernel_rfl) (by kernel_rfl) (fun _ _ _ h => h) (Or.inl ⟨by rfl, ?_⟩) hHeld ?_
      rotate_left 1
      · intro w hSw; (try dsimp only at hSw); go_simp; try with_reducible rfl
      refine wpAnyH_take (i := 6) (v := ?_) rfl (by kernel_rfl) (by kernel_rfl) (by kernel_rfl) (fun _ _ _ h => h) (Or.inl ⟨by rfl, ?_⟩) hHeld ?_
      rotate_left 1
      · intro w hSw; (try dsimp only at hSw); go_simp; try with_reducible rfl
      refine wpAnyH_take (i := 7) (v := ?_) rfl (by kernel_rfl) (by kernel_rfl) (by kernel_rfl) (fun _ _ _ h => h) (Or.inl ⟨by rfl, ?_⟩) hHeld ?_
      rotate_left 1
      · intro w hSw; (try dsimp only at hSw); go_simp; try with_reducible rfl
      refine wpAnyH_ready (rs := [3]) (by kernel_rfl) (by simp) (AllReadyH.cons rfl (fun K hK => ?_) (AllReadyH.nil))
      · go_simp
        refine hK.out _ _ hHeld (fun hHeld => ?_)
        clear hK K
        refine wpAnyH_take (i := 8) (v := ?_) rfl (by kernel_rfl) (by kernel_rfl) (by kernel_rfl) (fun _ _ _ h => h) (Or.inl ⟨by rfl, ?_⟩) hHeld ?_
        rotate_left 1
        · intro w hSw; (try dsimp only at hSw); go_simp; try with_reducible rfl
        refine wpAnyH_take (i := 9) (v := ?_) rfl (by kernel_rfl) (by kernel_rfl) (by kernel_rfl) (fun _ _ _ h => h) (Or.inl ⟨by rfl, ?_⟩) hHeld ?_
        rotate_left 1
        · intro w hSw; (try dsimp only at hSw); go_simp; try with_reducible rfl
        refine wpAnyH_take (i := 10) (v := ?_) rfl (by kernel_rfl) (by kernel_rfl) (by kernel_rfl) (fun _ _ _ h => h) (Or.inl ⟨by rfl, ?_⟩) hHeld ?_
        rotate_left 1
        · intro w hSw; (try dsimp only at hSw); go_simp; try with_reducible rfl
        refine wpAnyH_ready (rs := [11]) (by kernel_rfl) (by simp) (AllReadyH.cons rfl (fun K hK => ?_) (AllReadyH.nil))
        · go_simp
          refine hK.out _ _ HSL10.out (fun hHeld => ?_)
          clear hK K
          refine wpAnyH_done (by kernel_rfl) ?_ _
          go_wp2
          clear hHeld k3T k3L z3 HSL10 hwr
          generalize (W1.setCell ⟨TB, T * 5 + 3, none⟩ (.int .i64 ((sT : Int) + (sL : Int)))).drew = W2 at *
          obtain ⟨k4T, k4L, k2T, k2L, hfz2⟩ := HK2.out
          clear HK2
          -- the least
          generalize hlT : (at_ st2 T).least = lT at *
          generalize hlL : (at_ st2 L).least = lL at *
          obtain ⟨mn, hmn⟩ : ∃ mn, (if lL < lT then lL else lT) = mn := ⟨_, rfl⟩
          have HMN : Hid (mn = min lT lL) := by rw [Hid, ← hmn]; split <;> omega
          have HLE := hide (And.intro hlT hlL)
          clear hlT hlL
          have HSL11 : Hid ((W2.setCell ⟨TB, T * 5 + 4, none⟩ (.int .i64 mn)).cell? ⟨TB, L * 5 + 4, none⟩ = some (.int .i64 lL)) := (World.cell?_setCell_other _ _ _ _ (hne _ _ (by omega))).trans k4L
          have HK3 : Hid ((W2.setCell ⟨TB, T * 5 + 4, none⟩ (.int .i64 mn)).drew.cell? ⟨TB, T * 5 + 2, none⟩ = some (.int .i64 ((at_ st2 T).next : Int)) ∧ (W2.setCell ⟨TB, T * 5 + 4, none⟩ (.int .i64 mn)).drew.cell? ⟨TB, L * 5 + 2, none⟩ = some (.int .i64 ((at_ st2 L).next : Int)) ∧ (∀ p, (W2.setCell ⟨TB, T * 5 + 4, none⟩ (.int .i64 mn)).drew.frozen? ⟨TB, p, none⟩ = false)) :=
            ⟨(World.cell?_setCell_other _ _ _ _ (hne _ _ (by omega))).trans k2T, (World.cell?_setCell_other _ _ _ _ (hne _ _ (by omega))).trans k2L, fun p => (World.frozen?_setCell _ _ _ _).trans (hfz2 p)⟩
          have HR3 := hide (owns_drew (row_set HR2.out (T * 5 + 4) (.int .i64 mn)))
          have HT3 : Hid (Turns (fun b => b = TB) W2 (W2.setCell ⟨TB, T * 5 + 4, none⟩ (.int .i64 mn)).drew) := (Turns.setCell (Q := fun b => b = TB) _ ⟨TB, T * 5 + 4, none⟩ _ rfl).trans (turns_drew' _ _)
          have z4 := hfz2 (T * 5 + 4)
          clear hfz2 k2T k2L HR2
          refine wp_region_held_drew (S := fun w' => w'.cell? ⟨TB, L * 5 + 4, none⟩ = some (.int .i64 lL)) (by kernel_rfl) k4L (fun hHeld => ?_)
          refine wpAnyH_take (i := 0) (v := ?_) rfl (by kernel_rfl) (by kernel_rfl) (by kernel_rfl) (fun _ _ _ h => h) (Or.inl ⟨by rfl, ?_⟩) hHeld ?_
          rotate_left 1
          · intro w hSw; (try dsimp only at hSw); go_simp; try with_reducible rfl
          refine wpAnyH_take (i := 1) (v := ?_) rfl (by kernel_rfl) (by kernel_rfl) (by kernel_rfl) (fun _ _ _ h => h) (Or.inl ⟨by rfl, ?_⟩) hHeld ?_
          rotate_left 1
          · intro w hSw; (try dsimp only at hSw); go_simp; try with_reducible rfl
          refine wpAnyH_take (i := 2) (v := ?_) rfl (by kernel_rfl) (by kernel_rfl) (by kernel_rfl) (fun _ _ _ h => h) (Or.inl ⟨by rfl, ?_⟩) hHeld ?_
          rotate_left 1
          · intro w hSw; (try dsimp only at hSw); go_simp; try with_reducible rfl
          refine wpAnyH_take (i := 3) (v := ?_) rfl (by kernel_rfl) (by kernel_rfl) (by kernel_rfl) (fun _ _ _ h => h) (Or.inl ⟨by rfl, ?_⟩) hHeld ?_
          rotate_left 1
          · intro w hSw; (try dsimp only at hSw); go_simp; try with_reducible rfl
          refine wpAnyH_take (i := 5) (v := ?_) rfl (by kernel_rfl) (by kernel_rfl) (by kernel_rfl) (fun _ _ _ h => h) (Or.inl ⟨by rfl, ?_⟩) hHeld ?_
          rotate_left 1
          · intro w hSw; (try dsimp only at hSw); go_simp; try with_reducible rfl
          refine wpAnyH_take (i := 6) (v := ?_) rfl (by kernel_rfl) (by kernel_rfl) (by kernel_rfl) (fun _ _ _ h => h) (Or.inl ⟨by rfl, ?_⟩) hHeld ?_
          rotate_left 1
          · intro w hSw; (try dsimp only at hSw); go_simp; try with_reducible rfl
          refine wpAnyH_take (i := 7) (v := ?_) rfl (by kernel_rfl) (by kernel_rfl) (by kernel_rfl) (fun _ _ _ h => h) (Or.inl ⟨by rfl, ?_⟩) hHeld ?_
          rotate_left 1
          · intro w hSw; (try dsimp only at hSw); go_simp; try with_reducible rfl
          refine wpAnyH_take (i := 8) (v := ?_) rfl (by kernel_rfl) (by kernel_rfl) (by kernel_rfl) (fun _ _ _ h => h) (Or.inl ⟨by rfl, ?_⟩) hHeld ?_
          rotate_left 1
          · intro w hSw; (try dsimp only at hSw); go_simp; try with_reducible rfl
          refine wpAnyH_ready (rs := [4]) (by kernel_rfl) (by simp) (AllReadyH.cons rfl (fun K hK => ?_) (AllReadyH.nil))
          · go_simp
            refine hK.out _ _ hHeld (fun hHeld => ?_)
            clear hK K
            refine wpAnyH_take (i := 9) (v := ?_) rfl (by kernel_rfl) (by kernel_rfl) (by kernel_rfl) (fun _ _ _ h => h) (Or.inl ⟨by rfl, ?_⟩) hHeld ?_
            rotate_left 1
            · intro w hSw; (try dsimp only at hSw); go_simp; try with_reducible rfl
            refine wpAnyH_take (i := 10) (v := ?_) rfl (by kernel_rfl) (by kernel_rfl) (by kernel_rfl) (fun _ _ _ h => h) (Or.inl ⟨by rfl, ?_⟩) hHeld ?_
            rotate_left 1
            · intro w hSw; (try dsimp only at hSw); go_simp; try with_reducible rfl
            refine wpAnyH_take (i := 11) (v := ?_) rfl (by kernel_rfl) (by kernel_rfl) (by kernel_rfl) (fun _ _ _ h => h) (Or.inl ⟨by rfl, ?_⟩) hHeld ?_
            rotate_left 1
            · intro w hSw; (try dsimp only at hSw); go_simp; try with_reducible rfl
            refine wpAnyH_ready (rs := [12]) (by kernel_rfl) (by simp) (AllReadyH.cons rfl (fun K hK => ?_) (AllReadyH.nil))
            · go_simp
              refine hK.out _ _ HSL11.out (fun hHeld => ?_)
              clear hK K
              refine wpAnyH_done (by kernel_rfl) ?_ _
              go_wp2
              clear hHeld k4T k4L z4 HSL11 hmn
              generalize (W2.setCell ⟨TB, T * 5 + 4, none⟩ (.int .i64 mn)).drew = W3 at *
              obtain ⟨k2T, k2L, hfz3⟩ := HK3.out
              clear HK3
              -- the rings
              generalize hnT : (at_ st2 T).next = nT at *
              generalize hnL : (at_ st2 L).next = nL at *
              have HNX := hide (And.intro hnT hnL)
              clear hnT hnL
              have y2L : (W3.setCell ⟨TB, T * 5 + 2, none⟩ (.int .i64 (nL : Int))).cell? ⟨TB, L * 5 + 2, none⟩ = some (.int .i64 (nL : Int)) := (World.cell?_setCell_other _ _ _ _ (hne _ _ (by omega))).trans k2L
              have z5 := hfz3 (T * 5 + 2)
              have z6 : (W3.setCell ⟨TB, T * 5 + 2, none⟩ (.int .i64 (nL : Int))).frozen? ⟨TB, L * 5 + 2, none⟩ = false := (World.frozen?_setCell _ _ _ _).trans (hfz3 _)
              have HR5 := hide (owns_drew (row_set (row_set HR3.out (T * 5 + 2) (.int .i64 (nL : Int))) (L * 5 + 2) (.int .i64 (nT : Int))))
              have HT5 : Hid (Turns (fun b => b = TB) W3 ((W3.setCell ⟨TB, T * 5 + 2, none⟩ (.int .i64 (nL : Int))).setCell ⟨TB, L * 5 + 2, none⟩ (.int .i64 (nT : Int))).drew) := ((Turns.setCell (Q := fun b => b = TB) _ ⟨TB, T * 5 + 2, none⟩ _ rfl).trans (Turns.setCell (Q := fun b => b = TB) _ ⟨TB, L * 5 + 2, none⟩ _ rfl)).trans (turns_drew' _ _)
              clear hfz3 HR3 hne
              refine wp_region_any (by kernel_rfl) ?_
              show wpAny Try.prog .any _ _ _ _ _ W3.drew
              refine wpAny_take (i := 0) (v := ?_) rfl (by kernel_rfl) (by kernel_rfl) (by kernel_rfl) (fun _ _ _ h => h) (Or.inl ⟨by rfl, ?_⟩) ?_
              rotate_left 1
              · intro w; go_simp; try with_reducible rfl
              refine wpAny_take (i := 1) (v := ?_) rfl (by kernel_rfl) (by kernel_rfl) (by kernel_rfl) (fun _ _ _ h => h) (Or.inl ⟨by rfl, ?_⟩) ?_
              rotate_left 1
              · intro w; go_simp; try with_reducible rfl
              refine wpAny_take (i := 2) (v := ?_) rfl (by kernel_rfl) (by kernel_rfl) (by kernel_rfl) (fun _ _ _ h => h) (Or.inl ⟨by rfl, ?_⟩) ?_
              rotate_left 1
              · intro w; go_simp; try with_reducible rfl
              refine wpAny_take (i := 3) (v := ?_) rfl (by kernel_rfl) (by kernel_rfl) (by kernel_rfl) (fun _ _ _ h => h) (Or.inl ⟨by rfl, ?_⟩) ?_
              rotate_left 1
              · intro w; go_simp; try with_reducible rfl
              refine wpAny_take (i := 4) (v := ?_) rfl (by kernel_rfl) (by kernel_rfl) (by kernel_rfl) (fun _ _ _ h => h) (Or.inl ⟨by rfl, ?_⟩) ?_
              rotate_left 1
              · intro w; go_simp; try with_reducible rfl
              refine wpAny_take (i := 6) (v := ?_) rfl (by kernel_rfl) (by kernel_rfl) (by kernel_rfl) (fun _ _ _ h => h) (Or.inl ⟨by rfl, ?_⟩) ?_
              rotate_left 1
              · intro w; go_simp; try with_reducible rfl
              refine wpAny_take (i := 7) (v := ?_) rfl (by kernel_rfl) (by kernel_rfl) (by kernel_rfl) (fun _ _ _ h => h) (Or.inl ⟨by rfl, ?_⟩) ?_
              rotate_left 1
              · intro w; go_simp; try with_reducible rfl
              refine wpAny_take (i := 8) (v := ?_) rfl (by kernel_rfl) (by kernel_rfl) (by kernel_rfl) (fun _ _ _ h => h) (Or.inl ⟨by rfl, ?_⟩) ?_
              rotate_left 1
              · intro w; go_simp; try with_reducible rfl
              refine wpAny_ready (rs := [5, 9]) (by kernel_rfl) (by simp) (AllReady.cons rfl (fun K hK => ?_) (AllReady.cons rfl (fun K hK => ?_) (AllReady.nil)))
              · go_simp
                refine hK _ _ ?_
                clear hK K
                refine wpAny_ready (rs := [9]) (by kernel_rfl) (by simp) (AllReady.cons rfl (fun K hK => ?_) (AllReady.nil))
                · go_simp
                  refine hK _ _ ?_
                  clear hK K
                  refine wpAny_take (i := 10) (v := ?_) rfl (by kernel_rfl) (by kernel_rfl) (by kernel_rfl) (fun _ _ _ h => h) (Or.inl ⟨by rfl, ?_⟩) ?_
                  rotate_left 1
                  · intro w; go_simp; try with_reducible rfl
                  refine wpAny_take (i := 11) (v := ?_) rfl (by kernel_rfl) (by kernel_rfl) (by kernel_rfl) (fun _ _ _ h => h) (Or.inl ⟨by rfl, ?_⟩) ?_
                  rotate_left 1
                  · intro w; go_simp; try with_reducible rfl
                  refine wpAny_ready (rs := [12]) (by kernel_rfl) (by simp) (AllReady.cons rfl (fun K hK => ?_) (AllReady.nil))
                  · go_simp
                    refine hK _ _ ?_
                    clear hK K
                    refine wpAny_take (i := 13) (v := ?_) rfl (by kernel_rfl) (by kernel_rfl) (by kernel_rfl) (fun _ _ _ h => h) (Or.inl ⟨by rfl, ?_⟩) ?_
                    rotate_left 1
                    · intro w; go_simp; try with_reducible rfl
                    refine wpAny_take (i := 14) (v := ?_) rfl (by kernel_rfl) (by kernel_rfl) (by kernel_rfl) (fun _ _ _ h => h) (Or.inl ⟨by rfl, ?_⟩) ?_
                    rotate_left 1
                    · intro w; go_simp; try with_reducible rfl
                    refine wpAny_ready (rs := [15]) (by kernel_rfl) (by simp) (AllReady.cons rfl (fun K hK => ?_) (AllReady.nil))
                    · go_simp
                      refine hK _ _ ?_
                      clear hK K
                      refine wpAny_done (by kernel_rfl) ?_ _
                      generalize ((W3.setCell ⟨TB, T * 5 + 2, none⟩ (.int .i64 (nL : Int))).setCell ⟨TB, L * 5 + 2, none⟩ (.int .i64 (nT : Int))).drew = W5 at *
                      obtain ⟨hS0, hT0⟩ := HSX.out
                      have hTB : base ≤ TB := by
                        rcases hS0.row.2 with ⟨e1, _⟩ | ⟨g, cp, cur, e1, a1, _⟩
                        · cases e1
                        · injection e1 with e1
                          injection e1 with e1
                          injection e1 with e1
                          subst e1
                          exact a1
                      have hXT : X ≠ TB := fun e => by
                        rcases hS0.row.2 with ⟨e1, _⟩ | ⟨g, cp, cur, e1, _, a2, _⟩
                        · cases e1
                        · injection e1 with e1
                          injection e1 with e1
                          injection e1 with e1
                          subst e1
                          rw [← e, hS0.box] at a2
                          injection a2 with a2
                          injection a2 with _ a2
                          cases a2
                      have hmT : mb ≠ TB := fun e => by
                        rcases hS0.row.2 with ⟨e1, _⟩ | ⟨g, cp, cur, e1, _, a2, _⟩
                        · cases e1
                        · injection e1 with e1
                          injection e1 with e1
                          injection e1 with e1
                          subst e1
                          exact hS0.map.nocells _ _ _ (e ▸ a2)
                      have hmX : mb ≠ X := fun e => hS0.map.nocells _ _ _ (by rw [e]; exact hS0.box)
                      have hT05 : Turns (fun b => b = TB) W0 W5 := (((by rw [← HW1.out]; exact Turns.setCell (Q := fun b => b = TB) _ ⟨TB, L * 5 + 1, none⟩ _ rfl : Turns (fun b => b = TB) W0 W1).trans HT2.out).trans HT3.out).trans HT5.out
                      have hbox5 := (hT05.block X (lt_of hS0.box) hXT).trans hS0.box
                      have c3 : W5.cell? ⟨X, 3, none⟩ = some (.int .i64 (roots st2 : Int)) := cell_of hbox5 3
                      have f3 := frozen_of hbox5 3
                      have hb6 := heap_set_same' hbox5 3 (.int .i64 ((roots st2 : Int) - 1))
                      have hrj := roots_joined hTl hLl hTLn hLr
                      have hrle : roots st2 ≤ 1000000 := Nat.le_trans (roots_le st2 st2.length) (by omega)
                      have hT6 : Turns (fun b => b = X) W5 (W5.setCell ⟨X, 3, none⟩ (.int .i64 ((roots st2 : Int) - 1))) := Turns.setCell (Q := fun b => b = X) _ ⟨X, 3, none⟩ _ rfl
                      obtain ⟨huf, -⟩ := hS0.uf.join hTl hLl hTLn hTr hLr
                      have HFIN : Hid (SAt (W5.setCell ⟨X, 3, none⟩ (.int .i64 ((roots st2 : Int) - 1))) base X mb (.slice (some ⟨TB, 0, none⟩) st2.length cap) (joined st2 T L) ∧ Turns G w (W5.setCell ⟨X, 3, none⟩ (.int .i64 ((roots st2 : Int) - 1))) ∧ JoinR st a b (joined st2 T L) true) := by
                        refine ⟨⟨?_, ?_, ?_, huf, hS0.bX, hS0.bm⟩, (hT0.trans (hT05.mono fun b hb => by rw [hb]; exact HN2.out TB rfl)).trans (hT6.mono fun b hb => by rw [hb]; exact HGX.out), HJ.out _ true (.inr ⟨rfl, T, L, hTLn, HTL.out.2.2.2.2.2, rfl⟩)⟩
                        · rw [hb6, show ((roots (joined st2 T L) : Nat) : Int) = (roots st2 : Int) - 1 by omega]; simp
                        · have := owns_turns HR5.out hT6 (fun b hb e => hXT (by
                            have e2 : TB = b := by simpa [Value.ownBlock] using hb
                            rw [e2]; exact e.symm))
                          rw [joined_len, ← HFL.out, ← HMN.out]
                          exact this
                        · refine PlMap.same ((hS0.map.on (hT05.block mb hS0.map.lt hmT)).on (hT6.block mb ?_ hmX)) (joined_len _ _ _) (joined_key hTl hLl) (joined_keys hTl hLl)
                          exact Nat.lt_of_lt_of_le hS0.map.lt hT05.size
                      clear hS0 hT0 hbox5 hb6 hT6 hT05 huf HR5 HSX hrj
                      generalize roots st2 = rn at *
                      go_wp2
                      go_ret
                      exact ⟨_, _, true, rfl, HFIN.out.1, HFIN.out.2.1, fun b hb => HN2.out b hb, HFIN.out.2.2⟩
              · go_simp
                refine hK _ _ ?_
                clear hK K
                refine wpAny_ready (rs := [5]) (by kernel_rfl) (by simp) (AllReady.cons rfl (fun K hK => ?_) (AllReady.nil))
                · go_simp
                  refine hK _ _ ?_
                  clear hK K
                  refine wpAny_take (i := 10) (v := ?_) rfl (by kernel_rfl) (by kernel_rfl) (by kernel_rfl) (fun _ _ _ h => h) (Or.inl ⟨by rfl, ?_⟩) ?_
                  rotate_left 1
                  · intro w; go_simp; try with_reducible rfl
                  refine wpAny_take (i := 11) (v := ?_) rfl (by kernel_rfl) (by kernel_rfl) (by kernel_rfl) (fun _ _ _ h => h) (Or.inl ⟨by rfl, ?_⟩) ?_
                  rotate_left 1
                  · intro w; go_simp; try with_reducible rfl
                  refine wpAny_ready (rs := [12]) (by kernel_rfl) (by simp) (AllReady.cons rfl (fun K hK => ?_) (AllReady.nil))
                  · go_simp
                    refine hK _ _ ?_
                    clear hK K
                    refine wpAny_take (i := 13) (v := ?_) rfl (by kernel_rfl) (by kernel_rfl) (by kernel_rfl) (fun _ _ _ h => h) (Or.inl ⟨by rfl, ?_⟩) ?_
                    rotate_left 1
                    · intro w; go_simp; try with_reducible rfl
                    refine wpAny_take (i := 14) (v := ?_) rfl (by kernel_rfl) (by kernel_rfl) (by kernel_rfl) (fun _ _ _ h => h) (Or.inl ⟨by rfl, ?_⟩) ?_
                    rotate_left 1
                    · intro w; go_simp; try with_reducible rfl
                    refine wpAny_ready (rs := [15]) (by kernel_rfl) (by simp) (AllReady.cons rfl (fun K hK => ?_) (AllReady.nil))
                    · go_simp
                      refine hK _ _ ?_
                      clear hK K
                      refine wpAny_done (by kernel_rfl) ?_ _
                      generalize ((W3.setCell ⟨TB, T * 5 + 2, none⟩ (.int .i64 (nL : Int))).setCell ⟨TB, L * 5 + 2, none⟩ (.int .i64 (nT : Int))).drew = W5 at *
                      obtain ⟨hS0, hT0⟩ := HSX.out
                      have hTB : base ≤ TB := by
                        rcases hS0.row.2 with ⟨e1, _⟩ | ⟨g, cp, cur, e1, a1, _⟩
                        · cases e1
                        · injection e1 with e1
                          injection e1 with e1
                          injection e1 with e1
                          subst e1
                          exact a1
                      have hXT : X ≠ TB := fun e => by
                        rcases hS0.row.2 with ⟨e1, _⟩ | ⟨g, cp, cur, e1, _, a2, _⟩
                        · cases e1
                        · injection e1 with e1
                          injection e1 with e1
                          injection e1 with e1
                          subst e1
                          rw [← e, hS0.box] at a2
                          injection a2 with a2
                          injection a2 with _ a2
                          cases a2
                      have hmT : mb ≠ TB := fun e => by
                        rcases hS0.row.2 with ⟨e1, _⟩ | ⟨g, cp, cur, e1, _, a2, _⟩
                        · cases e1
                        · injection e1 with e1
                          injection e1 with e1
                          injection e1 with e1
                          subst e1
                          exact hS0.map.nocells _ _ _ (e ▸ a2)
                      have hmX : mb ≠ X := fun e => hS0.map.nocells _ _ _ (by rw [e]; exact hS0.box)
                      have hT05 : Turns (fun b => b = TB) W0 W5 := (((by rw [← HW1.out]; exact Turns.setCell (Q := fun b => b = TB) _ ⟨TB, L * 5 + 1, none⟩ _ rfl : Turns (fun b => b = TB) W0 W1).trans HT2.out).trans HT3.out).trans HT5.out
                      have hbox5 := (hT05.block X (lt_of hS0.box) hXT).trans hS0.box
                      have c3 : W5.cell? ⟨X, 3, none⟩ = some (.int .i64 (roots st2 : Int)) := cell_of hbox5 3
                      have f3 := frozen_of hbox5 3
                      have hb6 := heap_set_same' hbox5 3 (.int .i64 ((roots st2 : Int) - 1))
                      have hrj := roots_joined hTl hLl hTLn hLr
                      have hrle : roots st2 ≤ 1000000 := Nat.le_trans (roots_le st2 st2.length) (by omega)
                      have hT6 : Turns (fun b => b = X) W5 (W5.setCell ⟨X, 3, none⟩ (.int .i64 ((roots st2 : Int) - 1))) := Turns.setCell (Q := fun b => b = X) _ ⟨X, 3, none⟩ _ rfl
                      obtain ⟨huf, -⟩ := hS0.uf.join hTl hLl hTLn hTr hLr
                      have HFIN : Hid (SAt (W5.setCell ⟨X, 3, none⟩ (.int .i64 ((roots st2 : Int) - 1))) base X mb (.slice (some ⟨TB, 0, none⟩) st2.length cap) (joined st2 T L) ∧ Turns G w (W5.setCell ⟨X, 3, none⟩ (.int .i64 ((roots st2 : Int) - 1))) ∧ JoinR st a b (joined st2 T L) true) := by
                        refine ⟨⟨?_, ?_, ?_, huf, hS0.bX, hS0.bm⟩, (hT0.trans (hT05.mono fun b hb => by rw [hb]; exact HN2.out TB rfl)).trans (hT6.mono fun b hb => by rw [hb]; exact HGX.out), HJ.out _ true (.inr ⟨rfl, T, L, hTLn, HTL.out.2.2.2.2.2, rfl⟩)⟩
                        · rw [hb6, show ((roots (joined st2 T L) : Nat) : Int) = (roots st2 : Int) - 1 by omega]; simp
                        · have := owns_turns HR5.out hT6 (fun b hb e => hXT (by
                            have e2 : TB = b := by simpa [Value.ownBlock] using hb
                            rw [e2]; exact e.symm))
                          rw [joined_len, ← HFL.out, ← HMN.out]
                          exact this
                        · refine PlMap.same ((hS0.map.on (hT05.block mb hS0.map.lt hmT)).on (hT6.block mb ?_ hmX)) (joined_len _ _ _) (joined_key hTl hLl) (joined_keys hTl hLl)
                          exact Nat.lt_of_lt_of_le hS0.map.lt hT05.size
                      clear hS0 hT0 hbox5 hb6 hT6 hT05 huf HR5 HSX hrj
                      generalize roots st2 = rn at *
                      go_wp2
                      go_ret
                      exact ⟨_, _, true, rfl, HFIN.out.1, HFIN.out.2.1, fun b hb => HN2.out b hb, HFIN.out.2.2⟩
    · have q2 : (((at_ st2 L).size : Int) < ((at_ st2 T).size : Int)) = True := eq_true (by omega)
      have q2' : ((at_ st2 L).size < (at_ st2 T).size) = True := eq_true hlt
      clear hlt
      have hx := HCL.out L 1 htil (by decide)
      have s1L : w4.cell? ⟨TB, L * 5 + 1, none⟩ = some (.int .i64 ((at_ st2 L).above : Int)) := hx
      clear hx
      have fL := HFZ.out (L * 5 + 1)
      generalize at_ st2 T = aT at s4 q2 q2'
      generalize at_ st2 L = aL at s3 q2 q2' s1L
      go_wp2
      go_quiet (fail)
      go_wp2
      refine wp_region_held_drew (S := fun w' => w'.cell? ⟨X, 2, none⟩ = some (.slice (some ⟨TB, 0, none⟩) st2.length cap)) (by kernel_rfl) c2 (fun hHeld => ?_)
      refine wpAnyH_take (i := 0) (v := ?_) rfl (by kernel_rfl) (by kernel_rfl) (by kernel_rfl) (fun _ _ _ h => h) (Or.inl ⟨by rfl, ?_⟩) hHeld ?_
      rotate_left 1
      · intro w hSw; (try dsimp only at hSw); go_simp; try with_reducible rfl
      refine wpAnyH_take (i := 1) (v := ?_) rfl (by kernel_rfl) (by kernel_rfl) (by kernel_rfl) (fun _ _ _ h => h) (Or.inl ⟨by rfl, ?_⟩) hHeld ?_
      rotate_left 1
      · intro w hSw; (try dsimp only at hSw); go_simp; try with_reducible rfl
      refine wpAnyH_take (i := 2) (v := ?_) rfl (by kernel_rfl) (by kernel_rfl) (by kernel_rfl) (fun _ _ _ h => h) (Or.inl ⟨by rfl, ?_⟩) hHeld ?_
      rotate_left 1
      · intro w hSw; (try dsimp only at hSw); go_simp; try with_reducible rfl
      refine wpAnyH_take (i := 3) (v := ?_) rfl (by kernel_rfl) (by kernel_rfl) (by kernel_rfl) (fun _ _ _ h => h) (Or.inl ⟨by rfl, ?_⟩) hHeld ?_
      rotate_left 1
      · intro w hSw; (try dsimp only at hSw); go_simp; try with_reducible rfl
      refine wpAnyH_take (i := 4) (v := ?_) rfl (by kernel_rfl) (by kernel_rfl) (by kernel_rfl) (fun _ _ _ h => h) (Or.inl ⟨by rfl, ?_⟩) hHeld ?_
      rotate_left 1
      · intro w hSw; (try dsimp only at hSw); go_simp; try with_reducible rfl
      refine wpAnyH_take (i := 5) (v := ?_) rfl (by kernel_rfl) (by kernel_rfl) (by kernel_rfl) (fun _ _ _ h => h) (Or.inl ⟨by rfl, ?_⟩) hHeld ?_
      rotate_left 1
      · intro w hSw; (try dsimp only at hSw); go_simp; try with_reducible rfl
      refine wpAnyH_take (i := 6) (v := ?_) rfl (by kernel_rfl) (by kernel_rfl) (by kernel_rfl) (fun _ _ _ h => h) (Or.inl ⟨by rfl, ?_⟩) hHeld ?_
      rotate_left 1
      · intro w hSw; (try dsimp only at hSw); go_simp; try with_reducible rfl
      refine wpAnyH_take (i := 7) (v := ?_) rfl (by kernel_rfl) (by kernel_rfl) (by kernel_rfl) (fun _ _ _ h => h) (Or.inl ⟨by rfl, ?_⟩) hHeld ?_
      rotate_left 1
      · intro w hSw; (try dsimp only at hSw); go_simp; try with_reducible rfl
      refine wpAnyH_take (i := 8) (v := ?_) rfl (by kernel_rfl) (by kernel_rfl) (by kernel_rfl) (fun _ _ _ h => h) (Or.inl ⟨by rfl, ?_⟩) hHeld ?_
      rotate_left 1
      · intro w hSw; (try dsimp only at hSw); go_simp; try with_reducible rfl
      refine wpAnyH_take (i := 9) (v := ?_) rfl (by kernel_rfl) (by kernel_rfl) (by kernel_rfl) (fun _ _ _ h => h) (Or.inl ⟨by rfl, ?_⟩) hHeld ?_
      rotate_left 1
      · intro w hSw; (try dsimp only at hSw); go_simp; try with_reducible rfl
      refine wpAnyH_take (i := 10) (v := ?_) rfl (by kernel_rfl) (by kernel_rfl) (by kernel_rfl) (fun _ _ _ h => h) (Or.inl ⟨by rfl, ?_⟩) hHeld ?_
      rotate_left 1
      · intro w hSw; (try dsimp only at hSw); go_simp; try with_reducible rfl
      refine wpAnyH_take (i := 11) (v := ?_) rfl (by kernel_rfl) (by kernel_rfl) (by kernel_rfl) (fun _ _ _ h => h) (Or.inl ⟨by rfl, ?_⟩) hHeld ?_
      rotate_left 1
      · intro w hSw; (try dsimp only at hSw); go_simp; try with_reducible rfl
      refine wpAnyH_take (i := 12) (v := ?_) rfl (by kernel_rfl) (by kernel_rfl) (by kernel_rfl) (fun _ _ _ h => h) (Or.inl ⟨by rfl, ?_⟩) hHeld ?_
      rotate_left 1
      · intro w hSw; (try dsimp only at hSw); go_simp; try with_reducible rfl
      refine wpAnyH_take (i := 13) (v := ?_) rfl (by kernel_rfl) (by kernel_rfl) (by kernel_rfl) (fun _ _ _ h => h) (Or.inl ⟨by rfl, ?_⟩) hHeld ?_
      rotate_left 1
      · intro w hSw; (try dsimp only at hSw); go_simp; try with_reducible rfl
      refine wpAnyH_done (by kernel_rfl) ?_ _
      go_wp2
      have hS0 : SAt (w4.drewN (nq + 1)) base X mb (.slice (some ⟨TB, 0, none⟩) st2.length cap) st2 := HS2.out.turns (Q := fun _ => False) ⟨rfl, rfl, rfl, Nat.le_refl _, fun _ _ _ => rfl⟩ (fun h => h) (fun h => h) (fun _ _ h => h)
      have hT0 : Turns G w (w4.drewN (nq + 1)) := HTT.out.trans ⟨rfl, rfl, rfl, Nat.le_refl _, fun _ _ _ => rfl⟩
      have hfz0 : ∀ p, (w4.drewN (nq + 1)).frozen? ⟨TB, p, none⟩ = false := HFZ.out
      clear HFZ HCL HS2 HTT s3 s4 s1L fL c2
      generalize w4.drewN (nq + 1) = W0 at *
      have row0 := hS0.row
      have row1 := row_set row0 (L * 5 + 1) (.int .i64 (T : Int))
      obtain ⟨hTLn, hTl, hLl, hTr, hLr, hor⟩ := HTL.out
      have gt : ∀ (k f : Nat), k < st2.length → f < 5 → (st2.flatMap tcells)[k * 5 + f]? = (tcells (at_ st2 k))[f]? := fun k f hk hf => flat_get st2 k f hk hf
      have HC1 : Hid (∀ p, p < st2.length * 5 → (W0.setCell ⟨TB, L * 5 + 1, none⟩ (.int .i64 (T : Int))).cell? ⟨TB, p, none⟩ = ((st2.flatMap tcells).set (L * 5 + 1) (.int .i64 (T : Int)))[p]?) := fun p hp => row1.cellAt p hp
      have k3T : (W0.setCell ⟨TB, L * 5 + 1, none⟩ (.int .i64 (T : Int))).cell? ⟨TB, T * 5 + 3, none⟩ = some (.int .i64 ((at_ st2 T).size : Int)) := by
        rw [HC1.out _ (by omega), List.getElem?_set_ne (by omega), gt T 3 hTl (by decide)]; rfl
      have k3L : (W0.setCell ⟨TB, L * 5 + 1, none⟩ (.int .i64 (T : Int))).cell? ⟨TB, L * 5 + 3, none⟩ = some (.int .i64 ((at_ st2 L).size : Int)) := by
        rw [HC1.out _ (by omega), List.getElem?_set_ne (by omega), gt L 3 hLl (by decide)]; rfl
      have fz1 : (W0.setCell ⟨TB, L * 5 + 1, none⟩ (.int .i64 (T : Int))).frozen? ⟨TB, T * 5 + 3, none⟩ = false := (World.frozen?_setCell _ _ _ _).trans (hfz0 _)
      have k4T : (W0.setCell ⟨TB, L * 5 + 1, none⟩ (.int .i64 (T : Int))).cell? ⟨TB, T * 5 + 4, none⟩ = some (.int .i64 (at_ st2 T).least) := by
        rw [HC1.out _ (by omega), List.getElem?_set_ne (by omega), gt T 4 hTl (by decide)]; rfl
      have k4L : (W0.setCell ⟨TB, L * 5 + 1, none⟩ (.int .i64 (T : Int))).cell? ⟨TB, L * 5 + 4, none⟩ = some (.int .i64 (at_ st2 L).least) := by
        rw [HC1.out _ (by omega), List.getElem?_set_ne (by omega), gt L 4 hLl (by decide)]; rfl
      have k2T : (W0.setCell ⟨TB, L * 5 + 1, none⟩ (.int .i64 (T : Int))).cell? ⟨TB, T * 5 + 2, none⟩ = some (.int .i64 ((at_ st2 T).next : Int)) := by
        rw [HC1.out _ (by omega), List.getElem?_set_ne (by omega), gt T 2 hTl (by decide)]; rfl
      have k2L : (W0.setCell ⟨TB, L * 5 + 1, none⟩ (.int .i64 (T : Int))).cell? ⟨TB, L * 5 + 2, none⟩ = some (.int .i64 ((at_ st2 L).next : Int)) := by
        rw [HC1.out _ (by omega), List.getElem?_set_ne (by omega), gt L 2 hLl (by decide)]; rfl
      have hfz1 : ∀ p, (W0.setCell ⟨TB, L * 5 + 1, none⟩ (.int .i64 (T : Int))).frozen? ⟨TB, p, none⟩ = false := fun p => (World.frozen?_setCell _ _ _ _).trans (hfz0 _)
      have hsb : (at_ st2 T).size ≤ 1000000 ∧ (at_ st2 L).size ≤ 1000000 := ⟨by have := (hS0.uf.pos T hTl).2; omega, by have := (hS0.uf.pos L hLl).2; omega⟩
      have HFL := hide (flat_joined st2 hTl hLl hTLn)
      have HRW1 := hide row1
      have HSX := hide (And.intro hS0 hT0)
      clear hfz0 row0 gt HC1 row1 hS0 hT0 hor fz1
      generalize hW1 : W0.setCell ⟨TB, L * 5 + 1, none⟩ (.int .i64 (T : Int)) = W1 at *
      have HW1 := hide hW1
      clear hW1
      generalize hsT : (at_ st2 T).size = sT at *
      generalize hsL : (at_ st2 L).size = sL at *
      have HSZ := hide (And.intro hsT hsL)
      clear hsT hsL
      -- the size
      have hne : ∀ p q : Nat, p ≠ q → (⟨TB, p, none⟩ : Addr) ≠ ⟨TB, q, none⟩ := fun p q h e => by injection e; omega
      have hwr : IntKind.i64.wrap ((sT : Int) + (sL : Int)) = (sT : Int) + (sL : Int) := IntWalk.i64_in _ (by omega)
      have HSL10 : Hid ((W1.setCell ⟨TB, T * 5 + 3, none⟩ (.int .i64 ((sT : Int) + (sL : Int)))).cell? ⟨TB, L * 5 + 3, none⟩ = some (.int .i64 (sL : Int))) := (World.cell?_setCell_other _ _ _ _ (hne _ _ (by omega))).trans k3L
      have HK2 : Hid ((W1.setCell ⟨TB, T * 5 + 3, none⟩ (.int .i64 ((sT : Int) + (sL : Int)))).drew.cell? ⟨TB, T * 5 + 4, none⟩ = some (.int .i64 (at_ st2 T).least) ∧ (W1.setCell ⟨TB, T * 5 + 3, none⟩ (.int .i64 ((sT : Int) + (sL : Int)))).drew.cell? ⟨TB, L * 5 + 4, none⟩ = some (.int .i64 (at_ st2 L).least) ∧ (W1.setCell ⟨TB, T * 5 + 3, none⟩ (.int .i64 ((sT : Int) + (sL : Int)))).drew.cell? ⟨TB, T * 5 + 2, none⟩ = some (.int .i64 ((at_ st2 T).next : Int)) ∧ (W1.setCell ⟨TB, T * 5 + 3, none⟩ (.int .i64 ((sT : Int) + (sL : Int)))).drew.cell? ⟨TB, L * 5 + 2, none⟩ = some (.int .i64 ((at_ st2 L).next : Int)) ∧ (∀ p, (W1.setCell ⟨TB, T * 5 + 3, none⟩ (.int .i64 ((sT : Int) + (sL : Int)))).drew.frozen? ⟨TB, p, none⟩ = false)) :=
        ⟨(World.cell?_setCell_other _ _ _ _ (hne _ _ (by omega))).trans k4T, (World.cell?_setCell_other _ _ _ _ (hne _ _ (by omega))).trans k4L, (World.cell?_setCell_other _ _ _ _ (hne _ _ (by omega))).trans k2T, (World.cell?_setCell_other _ _ _ _ (hne _ _ (by omega))).trans k2L, fun p => (World.frozen?_setCell _ _ _ _).trans (hfz1 p)⟩
      have HR2 := hide (owns_drew (row_set HRW1.out (T * 5 + 3) (.int .i64 ((sT : Int) + (sL : Int)))))
      have HT2 : Hid (Turns (fun b => b = TB) W1 (W1.setCell ⟨TB, T * 5 + 3, none⟩ (.int .i64 ((sT : Int) + (sL : Int)))).drew) := (Turns.setCell (Q := fun b => b = TB) _ ⟨TB, T * 5 + 3, none⟩ _ rfl).trans (turns_drew' _ _)
      have z3 := hfz1 (T * 5 + 3)
      clear hfz1 k4T k4L k2T k2L HRW1
      refine wp_region_held_drew (S := fun w' => w'.cell? ⟨TB, L * 5 + 3, none⟩ = some (.int .i64 (sL : Int))) (by kernel_rfl) k3L (fun hHeld => ?_)
      refine wpAnyH_take (i := 0) (v := ?_) rfl (by kernel_rfl) (by kernel_rfl) (by kernel_rfl) (fun _ _ _ h => h) (Or.inl ⟨by rfl, ?_⟩) hHeld ?_
      rotate_left 1
      · intro w hSw; (try dsimp only at hSw); go_simp; try with_reducible rfl
      refine wpAnyH_take (i := 1) (v := ?_) rfl (by kernel_rfl) (by kernel_rfl) (by kernel_rfl) (fun _ _ _ h => h) (Or.inl ⟨by rfl, ?_⟩) hHeld ?_
      rotate_left 1
      · intro w hSw; (try dsimp only at hSw); go_simp; try with_reducible rfl
      refine wpAnyH_take (i := 2) (v := ?_) rfl (by kernel_rfl) (by kernel_rfl) (by kernel_rfl) (fun _ _ _ h => h) (Or.inl ⟨by rfl, ?_⟩) hHeld ?_
      rotate_left 1
      · intro w hSw; (try dsimp only at hSw); go_simp; try with_reducible rfl
      refine wpAnyH_take (i := 4) (v := ?_) rfl (by kernel_rfl) (by kernel_rfl) (by kernel_rfl) (fun _ _ _ h => h) (Or.inl ⟨by rfl, ?_⟩) hHeld ?_
      rotate_left 1
      · intro w hSw; (try dsimp only at hSw); go_simp; try with_reducible rfl
      refine wpAnyH_take (i := 5) (v := ?_) rfl (by kernel_rfl) (by kernel_rfl) (by kernel_rfl) (fun _ _ _ h => h) (Or.inl ⟨by rfl, ?_⟩) hHeld ?_
      rotate_left 1
      · intro w hSw; (try dsimp only at hSw); go_simp; try with_reducible rfl
      refine wpAnyH_take (i := 6) (v := ?_) rfl (by kernel_rfl) (by kernel_rfl) (by kernel_rfl) (fun _ _ _ h => h) (Or.inl ⟨by rfl, ?_⟩) hHeld ?_
      rotate_left 1
      · intro w hSw; (try dsimp only at hSw); go_simp; try with_reducible rfl
      refine wpAnyH_take (i := 7) (v := ?_) rfl (by kernel_rfl) (by kernel_rfl) (by kernel_rfl) (fun _ _ _ h => h) (Or.inl ⟨by rfl, ?_⟩) hHeld ?_
      rotate_left 1
      · intro w hSw; (try dsimp only at hSw); go_simp; try with_reducible rfl
      refine wpAnyH_ready (rs := [3]) (by kernel_rfl) (by simp) (AllReadyH.cons rfl (fun K hK => ?_) (AllReadyH.nil))
      · go_simp
        refine hK.out _ _ hHeld (fun hHeld => ?_)
        clear hK K
        refine wpAnyH_take (i := 8) (v := ?_) rfl (by kernel_rfl) (by kernel_rfl) (by kernel_rfl) (fun _ _ _ h => h) (Or.inl ⟨by rfl, ?_⟩) hHeld ?_
        rotate_left 1
        · intro w hSw; (try dsimp only at hSw); go_simp; try with_reducible rfl
        refine wpAnyH_take (i := 9) (v := ?_) rfl (by kernel_rfl) (by kernel_rfl) (by kernel_rfl) (fun _ _ _ h => h) (Or.inl ⟨by rfl, ?_⟩) hHeld ?_
        rotate_left 1
        · intro w hSw; (try dsimp only at hSw); go_simp; try with_reducible rfl
        refine wpAnyH_take (i := 10) (v := ?_) rfl (by kernel_rfl) (by kernel_rfl) (by kernel_rfl) (fun _ _ _ h => h) (Or.inl ⟨by rfl, ?_⟩) hHeld ?_
        rotate_left 1
        · intro w hSw; (try dsimp only at hSw); go_simp; try with_reducible rfl
        refine wpAnyH_ready (rs := [11]) (by kernel_rfl) (by simp) (AllReadyH.cons rfl (fun K hK => ?_) (AllReadyH.nil))
        · go_simp
          refine hK.out _ _ HSL10.out (fun hHeld => ?_)
          clear hK K
          refine wpAnyH_done (by kernel_rfl) ?_ _
          go_wp2
          clear hHeld k3T k3L z3 HSL10 hwr
          generalize (W1.setCell ⟨TB, T * 5 + 3, none⟩ (.int .i64 ((sT : Int) + (sL : Int)))).drew = W2 at *
          obtain ⟨k4T, k4L, k2T, k2L, hfz2⟩ := HK2.out
          clear HK2
          -- the least
          generalize hlT : (at_ st2 T).least = lT at *
          generalize hlL : (at_ st2 L).least = lL at *
          obtain ⟨mn, hmn⟩ : ∃ mn, (if lL < lT then lL else lT) = mn := ⟨_, rfl⟩
          have HMN : Hid (mn = min lT lL) := by rw [Hid, ← hmn]; split <;> omega
          have HLE := hide (And.intro hlT hlL)
          clear hlT hlL
          have HSL11 : Hid ((W2.setCell ⟨TB, T * 5 + 4, none⟩ (.int .i64 mn)).cell? ⟨TB, L * 5 + 4, none⟩ = some (.int .i64 lL)) := (World.cell?_setCell_other _ _ _ _ (hne _ _ (by omega))).trans k4L
          have HK3 : Hid ((W2.setCell ⟨TB, T * 5 + 4, none⟩ (.int .i64 mn)).drew.cell? ⟨TB, T * 5 + 2, none⟩ = some (.int .i64 ((at_ st2 T).next : Int)) ∧ (W2.setCell ⟨TB, T * 5 + 4, none⟩ (.int .i64 mn)).drew.cell? ⟨TB, L * 5 + 2, none⟩ = some (.int .i64 ((at_ st2 L).next : Int)) ∧ (∀ p, (W2.setCell ⟨TB, T * 5 + 4, none⟩ (.int .i64 mn)).drew.frozen? ⟨TB, p, none⟩ = false)) :=
            ⟨(World.cell?_setCell_other _ _ _ _ (hne _ _ (by omega))).trans k2T, (World.cell?_setCell_other _ _ _ _ (hne _ _ (by omega))).trans k2L, fun p => (World.frozen?_setCell _ _ _ _).trans (hfz2 p)⟩
          have HR3 := hide (owns_drew (row_set HR2.out (T * 5 + 4) (.int .i64 mn)))
          have HT3 : Hid (Turns (fun b => b = TB) W2 (W2.setCell ⟨TB, T * 5 + 4, none⟩ (.int .i64 mn)).drew) := (Turns.setCell (Q := fun b => b = TB) _ ⟨TB, T * 5 + 4, none⟩ _ rfl).trans (turns_drew' _ _)
          have z4 := hfz2 (T * 5 + 4)
          clear hfz2 k2T k2L HR2
          refine wp_region_held_drew (S := fun w' => w'.cell? ⟨TB, L * 5 + 4, none⟩ = some (.int .i64 lL)) (by kernel_rfl) k4L (fun hHeld => ?_)
          refine wpAnyH_take (i := 0) (v := ?_) rfl (by kernel_rfl) (by kernel_rfl) (by kernel_rfl) (fun _ _ _ h => h) (Or.inl ⟨by rfl, ?_⟩) hHeld ?_
          rotate_left 1
          · intro w hSw; (try dsimp only at hSw); go_simp; try with_reducible rfl
          refine wpAnyH_take (i := 1) (v := ?_) rfl (by kernel_rfl) (by kernel_rfl) (by kernel_rfl) (fun _ _ _ h => h) (Or.inl ⟨by rfl, ?_⟩) hHeld ?_
          rotate_left 1
          · intro w hSw; (try dsimp only at hSw); go_simp; try with_reducible rfl
          refine wpAnyH_take (i := 2) (v := ?_) rfl (by kernel_rfl) (by kernel_rfl) (by kernel_rfl) (fun _ _ _ h => h) (Or.inl ⟨by rfl, ?_⟩) hHeld ?_
          rotate_left 1
          · intro w hSw; (try dsimp only at hSw); go_simp; try with_reducible rfl
          refine wpAnyH_take (i := 3) (v := ?_) rfl (by kernel_rfl) (by kernel_rfl) (by kernel_rfl) (fun _ _ _ h => h) (Or.inl ⟨by rfl, ?_⟩) hHeld ?_
          rotate_left 1
          · intro w hSw; (try dsimp only at hSw); go_simp; try with_reducible rfl
          refine wpAnyH_take (i := 5) (v := ?_) rfl (by kernel_rfl) (by kernel_rfl) (by kernel_rfl) (fun _ _ _ h => h) (Or.inl ⟨by rfl, ?_⟩) hHeld ?_
          rotate_left 1
          · intro w hSw; (try dsimp only at hSw); go_simp; try with_reducible rfl
          refine wpAnyH_take (i := 6) (v := ?_) rfl (by kernel_rfl) (by kernel_rfl) (by kernel_rfl) (fun _ _ _ h => h) (Or.inl ⟨by rfl, ?_⟩) hHeld ?_
          rotate_left 1
          · intro w hSw; (try dsimp only at hSw); go_simp; try with_reducible rfl
          refine wpAnyH_take (i := 7) (v := ?_) rfl (by kernel_rfl) (by kernel_rfl) (by kernel_rfl) (fun _ _ _ h => h) (Or.inl ⟨by rfl, ?_⟩) hHeld ?_
          rotate_left 1
          · intro w hSw; (try dsimp only at hSw); go_simp; try with_reducible rfl
          refine wpAnyH_take (i := 8) (v := ?_) rfl (by kernel_rfl) (by kernel_rfl) (by kernel_rfl) (fun _ _ _ h => h) (Or.inl ⟨by rfl, ?_⟩) hHeld ?_
          rotate_left 1
          · intro w hSw; (try dsimp only at hSw); go_simp; try with_reducible rfl
          refine wpAnyH_ready (rs := [4]) (by kernel_rfl) (by simp) (AllReadyH.cons rfl (fun K hK => ?_) (AllReadyH.nil))
          · go_simp
            refine hK.out _ _ hHeld (fun hHeld => ?_)
            clear hK K
            refine wpAnyH_take (i := 9) (v := ?_) rfl (by kernel_rfl) (by kernel_rfl) (by kernel_rfl) (fun _ _ _ h => h) (Or.inl ⟨by rfl, ?_⟩) hHeld ?_
            rotate_left 1
            · intro w hSw; (try dsimp only at hSw); go_simp; try with_reducible rfl
            refine wpAnyH_take (i := 10) (v := ?_) rfl (by kernel_rfl) (by kernel_rfl) (by kernel_rfl) (fun _ _ _ h => h) (Or.inl ⟨by rfl, ?_⟩) hHeld ?_
            rotate_left 1
            · intro w hSw; (try dsimp only at hSw); go_simp; try with_reducible rfl
            refine wpAnyH_take (i := 11) (v := ?_) rfl (by kernel_rfl) (by kernel_rfl) (by kernel_rfl) (fun _ _ _ h => h) (Or.inl ⟨by rfl, ?_⟩) hHeld ?_
            rotate_left 1
            · intro w hSw; (try dsimp only at hSw); go_simp; try with_reducible rfl
            refine wpAnyH_ready (rs := [12]) (by kernel_rfl) (by simp) (AllReadyH.cons rfl (fun K hK => ?_) (AllReadyH.nil))
            · go_simp
              refine hK.out _ _ HSL11.out (fun hHeld => ?_)
              clear hK K
              refine wpAnyH_done (by kernel_rfl) ?_ _
              go_wp2
              clear hHeld k4T k4L z4 HSL11 hmn
              generalize (W2.setCell ⟨TB, T * 5 + 4, none⟩ (.int .i64 mn)).drew = W3 at *
              obtain ⟨k2T, k2L, hfz3⟩ := HK3.out
              clear HK3
              -- the rings
              generalize hnT : (at_ st2 T).next = nT at *
              generalize hnL : (at_ st2 L).next = nL at *
              have HNX := hide (And.intro hnT hnL)
              clear hnT hnL
              have y2L : (W3.setCell ⟨TB, T * 5 + 2, none⟩ (.int .i64 (nL : Int))).cell? ⟨TB, L * 5 + 2, none⟩ = some (.int .i64 (nL : Int)) := (World.cell?_setCell_other _ _ _ _ (hne _ _ (by omega))).trans k2L
              have z5 := hfz3 (T * 5 + 2)
              have z6 : (W3.setCell ⟨TB, T * 5 + 2, none⟩ (.int .i64 (nL : Int))).frozen? ⟨TB, L * 5 + 2, none⟩ = false := (World.frozen?_setCell _ _ _ _).trans (hfz3 _)
              have HR5 := hide (owns_drew (row_set (row_set HR3.out (T * 5 + 2) (.int .i64 (nL : Int))) (L * 5 + 2) (.int .i64 (nT : Int))))
              have HT5 : Hid (Turns (fun b => b = TB) W3 ((W3.setCell ⟨TB, T * 5 + 2, none⟩ (.int .i64 (nL : Int))).setCell ⟨TB, L * 5 + 2, none⟩ (.int .i64 (nT : Int))).drew) := ((Turns.setCell (Q := fun b => b = TB) _ ⟨TB, T * 5 + 2, none⟩ _ rfl).trans (Turns.setCell (Q := fun b => b = TB) _ ⟨TB, L * 5 + 2, none⟩ _ rfl)).trans (turns_drew' _ _)
              clear hfz3 HR3 hne
              refine wp_region_any (by kernel_rfl) ?_
              show wpAny Try.prog .any _ _ _ _ _ W3.drew
              refine wpAny_take (i := 0) (v := ?_) rfl (by kernel_rfl) (by kernel_rfl) (by kernel_rfl) (fun _ _ _ h => h) (Or.inl ⟨by rfl, ?_⟩) ?_
              rotate_left 1
              · intro w; go_simp; try with_reducible rfl
              refine wpAny_take (i := 1) (v := ?_) rfl (by kernel_rfl) (by kernel_rfl) (by kernel_rfl) (fun _ _ _ h => h) (Or.inl ⟨by rfl, ?_⟩) ?_
              rotate_left 1
              · intro w; go_simp; try with_reducible rfl
              refine wpAny_take (i := 2) (v := ?_) rfl (by kernel_rfl) (by kernel_rfl) (by kernel_rfl) (fun _ _ _ h => h) (Or.inl ⟨by rfl, ?_⟩) ?_
              rotate_left 1
              · intro w; go_simp; try with_reducible rfl
              refine wpAny_take (i := 3) (v := ?_) rfl (by kernel_rfl) (by kernel_rfl) (by kernel_rfl) (fun _ _ _ h => h) (Or.inl ⟨by rfl, ?_⟩) ?_
              rotate_left 1
              · intro w; go_simp; try with_reducible rfl
              refine wpAny_take (i := 4) (v := ?_) rfl (by kernel_rfl) (by kernel_rfl) (by kernel_rfl) (fun _ _ _ h => h) (Or.inl ⟨by rfl, ?_⟩) ?_
              rotate_left 1
              · intro w; go_simp; try with_reducible rfl
              refine wpAny_take (i := 6) (v := ?_) rfl (by kernel_rfl) (by kernel_rfl) (by kernel_rfl) (fun _ _ _ h => h) (Or.inl ⟨by rfl, ?_⟩) ?_
              rotate_left 1
              · intro w; go_simp; try with_reducible rfl
              refine wpAny_take (i := 7) (v := ?_) rfl (by kernel_rfl) (by kernel_rfl) (by kernel_rfl) (fun _ _ _ h => h) (Or.inl ⟨by rfl, ?_⟩) ?_
              rotate_left 1
              · intro w; go_simp; try with_reducible rfl
              refine wpAny_take (i := 8) (v := ?_) rfl (by kernel_rfl) (by kernel_rfl) (by kernel_rfl) (fun _ _ _ h => h) (Or.inl ⟨by rfl, ?_⟩) ?_
              rotate_left 1
              · intro w; go_simp; try with_reducible rfl
              refine wpAny_ready (rs := [5, 9]) (by kernel_rfl) (by simp) (AllReady.cons rfl (fun K hK => ?_) (AllReady.cons rfl (fun K hK => ?_) (AllReady.nil)))
              · go_simp
                refine hK _ _ ?_
                clear hK K
                refine wpAny_ready (rs := [9]) (by kernel_rfl) (by simp) (AllReady.cons rfl (fun K hK => ?_) (AllReady.nil))
                · go_simp
                  refine hK _ _ ?_
                  clear hK K
                  refine wpAny_take (i := 10) (v := ?_) rfl (by kernel_rfl) (by kernel_rfl) (by kernel_rfl) (fun _ _ _ h => h) (Or.inl ⟨by rfl, ?_⟩) ?_
                  rotate_left 1
                  · intro w; go_simp; try with_reducible rfl
                  refine wpAny_take (i := 11) (v := ?_) rfl (by kernel_rfl) (by kernel_rfl) (by kernel_rfl) (fun _ _ _ h => h) (Or.inl ⟨by rfl, ?_⟩) ?_
                  rotate_left 1
                  · intro w; go_simp; try with_reducible rfl
                  refine wpAny_ready (rs := [12]) (by kernel_rfl) (by simp) (AllReady.cons rfl (fun K hK => ?_) (AllReady.nil))
                  · go_simp
                    refine hK _ _ ?_
                    clear hK K
                    refine wpAny_take (i := 13) (v := ?_) rfl (by kernel_rfl) (by kernel_rfl) (by kernel_rfl) (fun _ _ _ h => h) (Or.inl ⟨by rfl, ?_⟩) ?_
                    rotate_left 1
                    · intro w; go_simp; try with_reducible rfl
                    refine wpAny_take (i := 14) (v := ?_) rfl (by kernel_rfl) (by kernel_rfl) (by kernel_rfl) (fun _ _ _ h => h) (Or.inl ⟨by rfl, ?_⟩) ?_
                    rotate_left 1
                    · intro w; go_simp; try with_reducible rfl
                    refine wpAny_ready (rs := [15]) (by kernel_rfl) (by simp) (AllReady.cons rfl (fun K hK => ?_) (AllReady.nil))
                    · go_simp
                      refine hK _ _ ?_
                      clear hK K
                      refine wpAny_done (by kernel_rfl) ?_ _
                      generalize ((W3.setCell ⟨TB, T * 5 + 2, none⟩ (.int .i64 (nL : Int))).setCell ⟨TB, L * 5 + 2, none⟩ (.int .i64 (nT : Int))).drew = W5 at *
                      obtain ⟨hS0, hT0⟩ := HSX.out
                      have hTB : base ≤ TB := by
                        rcases hS0.row.2 with ⟨e1, _⟩ | ⟨g, cp, cur, e1, a1, _⟩
                        · cases e1
                        · injection e1 with e1
                          injection e1 with e1
                          injection e1 with e1
                          subst e1
                          exact a1
                      have hXT : X ≠ TB := fun e => by
                        rcases hS0.row.2 with ⟨e1, _⟩ | ⟨g, cp, cur, e1, _, a2, _⟩
                        · cases e1
                        · injection e1 with e1
                          injection e1 with e1
                          injection e1 with e1
                          subst e1
                          rw [← e, hS0.box] at a2
                          injection a2 with a2
                          injection a2 with _ a2
                          cases a2
                      have hmT : mb ≠ TB := fun e => by
                        rcases hS0.row.2 with ⟨e1, _⟩ | ⟨g, cp, cur, e1, _, a2, _⟩
                        · cases e1
                        · injection e1 with e1
                          injection e1 with e1
                          injection e1 with e1
                          subst e1
                          exact hS0.map.nocells _ _ _ (e ▸ a2)
                      have hmX : mb ≠ X := fun e => hS0.map.nocells _ _ _ (by rw [e]; exact hS0.box)
                      have hT05 : Turns (fun b => b = TB) W0 W5 := (((by rw [← HW1.out]; exact Turns.setCell (Q := fun b => b = TB) _ ⟨TB, L * 5 + 1, none⟩ _ rfl : Turns (fun b => b = TB) W0 W1).trans HT2.out).trans HT3.out).trans HT5.out
                      have hbox5 := (hT05.block X (lt_of hS0.box) hXT).trans hS0.box
                      have c3 : W5.cell? ⟨X, 3, none⟩ = some (.int .i64 (roots st2 : Int)) := cell_of hbox5 3
                      have f3 := frozen_of hbox5 3
                      have hb6 := heap_set_same' hbox5 3 (.int .i64 ((roots st2 : Int) - 1))
                      have hrj := roots_joined hTl hLl hTLn hLr
                      have hrle : roots st2 ≤ 1000000 := Nat.le_trans (roots_le st2 st2.length) (by omega)
                      have hT6 : Turns (fun b => b = X) W5 (W5.setCell ⟨X, 3, none⟩ (.int .i64 ((roots st2 : Int) - 1))) := Turns.setCell (Q := fun b => b = X) _ ⟨X, 3, none⟩ _ rfl
                      obtain ⟨huf, -⟩ := hS0.uf.join hTl hLl hTLn hTr hLr
                      have HFIN : Hid (SAt (W5.setCell ⟨X, 3, none⟩ (.int .i64 ((roots st2 : Int) - 1))) base X mb (.slice (some ⟨TB, 0, none⟩) st2.length cap) (joined st2 T L) ∧ Turns G w (W5.setCell ⟨X, 3, none⟩ (.int .i64 ((roots st2 : Int) - 1))) ∧ JoinR st a b (joined st2 T L) true) := by
                        refine ⟨⟨?_, ?_, ?_, huf, hS0.bX, hS0.bm⟩, (hT0.trans (hT05.mono fun b hb => by rw [hb]; exact HN2.out TB rfl)).trans (hT6.mono fun b hb => by rw [hb]; exact HGX.out), HJ.out _ true (.inr ⟨rfl, T, L, hTLn, HTL.out.2.2.2.2.2, rfl⟩)⟩
                        · rw [hb6, show ((roots (joined st2 T L) : Nat) : Int) = (roots st2 : Int) - 1 by omega]; simp
                        · have := owns_turns HR5.out hT6 (fun b hb e => hXT (by
                            have e2 : TB = b := by simpa [Value.ownBlock] using hb
                            rw [e2]; exact e.symm))
                          rw [joined_len, ← HFL.out, ← HMN.out]
                          exact this
                        · refine PlMap.same ((hS0.map.on (hT05.block mb hS0.map.lt hmT)).on (hT6.block mb ?_ hmX)) (joined_len _ _ _) (joined_key hTl hLl) (joined_keys hTl hLl)
                          exact Nat.lt_of_lt_of_le hS0.map.lt hT05.size
                      clear hS0 hT0 hbox5 hb6 hT6 hT05 huf HR5 HSX hrj
                      generalize roots st2 = rn at *
                      go_wp2
                      go_ret
                      exact ⟨_, _, true, rfl, HFIN.out.1, HFIN.out.2.1, fun b hb => HN2.out b hb, HFIN.out.2.2⟩
              · go_simp
                refine hK _ _ ?_
                clear hK K
                refine wpAny_ready (rs := [5]) (by kernel_rfl) (by simp) (AllReady.cons rfl (fun K hK => ?_) (AllReady.nil))
                · go_simp
                  refine hK _ _ ?_
                  clear hK K
                  refine wpAny_take (i := 10) (v := ?_) rfl (by kernel_rfl) (by kernel_rfl) (by kernel_rfl) (fun _ _ _ h => h) (Or.inl ⟨by rfl, ?_⟩) ?_
                  rotate_left 1
                  · intro w; go_simp; try with_reducible rfl
                  refine wpAny_take (i := 11) (v := ?_) rfl (by kernel_rfl) (by kernel_rfl) (by kernel_rfl) (fun _ _ _ h => h) (Or.inl ⟨by rfl, ?_⟩) ?_
                  rotate_left 1
                  · intro w; go_simp; try with_reducible rfl
                  refine wpAny_ready (rs := [12]) (by kernel_rfl) (by simp) (AllReady.cons rfl (fun K hK => ?_) (AllReady.nil))
                  · go_simp
                    refine hK _ _ ?_
                    clear hK K
                    refine wpAny_take (i := 13) (v := ?_) rfl (by kernel_rfl) (by kernel_rfl) (by kernel_rfl) (fun _ _ _ h => h) (Or.inl ⟨by rfl, ?_⟩) ?_
                    rotate_left 1
                    · intro w; go_simp; try with_reducible rfl
                    refine wpAny_take (i := 14) (v := ?_) rfl (by kernel_rfl) (by kernel_rfl) (by kernel_rfl) (fun _ _ _ h => h) (Or.inl ⟨by rfl, ?_⟩) ?_
                    rotate_left 1
                    · intro w; go_simp; try with_reducible rfl
                    refine wpAny_ready (rs := [15]) (by kernel_rfl) (by simp) (AllReady.cons rfl (fun K hK => ?_) (AllReady.nil))
                    · go_simp
                      refine hK _ _ ?_
                      clear hK K
                      refine wpAny_done (by kernel_rfl) ?_ _
                      generalize ((W3.setCell ⟨TB, T * 5 + 2, none⟩ (.int .i64 (nL : Int))).setCell ⟨TB, L * 5 + 2, none⟩ (.int .i64 (nT : Int))).drew = W5 at *
                      obtain ⟨hS0, hT0⟩ := HSX.out
                      have hTB : base ≤ TB := by
                        rcases hS0.row.2 with ⟨e1, _⟩ | ⟨g, cp, cur, e1, a1, _⟩
                        · cases e1
                        · injection e1 with e1
                          injection e1 with e1
                          injection e1 with e1
                          subst e1
                          exact a1
                      have hXT : X ≠ TB := fun e => by
                        rcases hS0.row.2 with ⟨e1, _⟩ | ⟨g, cp, cur, e1, _, a2, _⟩
                        · cases e1
                        · injection e1 with e1
                          injection e1 with e1
                          injection e1 with e1
                          subst e1
                          rw [← e, hS0.box] at a2
                          injection a2 with a2
                          injection a2 with _ a2
                          cases a2
                      have hmT : mb ≠ TB := fun e => by
                        rcases hS0.row.2 with ⟨e1, _⟩ | ⟨g, cp, cur, e1, _, a2, _⟩
                        · cases e1
                        · injection e1 with e1
                          injection e1 with e1
                          injection e1 with e1
                          subst e1
                          exact hS0.map.nocells _ _ _ (e ▸ a2)
                      have hmX : mb ≠ X := fun e => hS0.map.nocells _ _ _ (by rw [e]; exact hS0.box)
                      have hT05 : Turns (fun b => b = TB) W0 W5 := (((by rw [← HW1.out]; exact Turns.setCell (Q := fun b => b = TB) _ ⟨TB, L * 5 + 1, none⟩ _ rfl : Turns (fun b => b = TB) W0 W1).trans HT2.out).trans HT3.out).trans HT5.out
                      have hbox5 := (hT05.block X (lt_of hS0.box) hXT).trans hS0.box
                      have c3 : W5.cell? ⟨X, 3, none⟩ = some (.int .i64 (roots st2 : Int)) := cell_of hbox5 3
                      have f3 := frozen_of hbox5 3
                      have hb6 := heap_set_same' hbox5 3 (.int .i64 ((roots st2 : Int) - 1))
                      have hrj := roots_joined hTl hLl hTLn hLr
                      have hrle : roots st2 ≤ 1000000 := Nat.le_trans (roots_le st2 st2.length) (by omega)
                      have hT6 : Turns (fun b => b = X) W5 (W5.setCell ⟨X, 3, none⟩ (.int .i64 ((roots st2 : Int) - 1))) := Turns.setCell (Q := fun b => b = X) _ ⟨X, 3, none⟩ _ rfl
                      obtain ⟨huf, -⟩ := hS0.uf.join hTl hLl hTLn hTr hLr
                      have HFIN : Hid (SAt (W5.setCell ⟨X, 3, none⟩ (.int .i64 ((roots st2 : Int) - 1))) base X mb (.slice (some ⟨TB, 0, none⟩) st2.length cap) (joined st2 T L) ∧ Turns G w (W5.setCell ⟨X, 3, none⟩ (.int .i64 ((roots st2 : Int) - 1))) ∧ JoinR st a b (joined st2 T L) true) := by
                        refine ⟨⟨?_, ?_, ?_, huf, hS0.bX, hS0.bm⟩, (hT0.trans (hT05.mono fun b hb => by rw [hb]; exact HN2.out TB rfl)).trans (hT6.mono fun b hb => by rw [hb]; exact HGX.out), HJ.out _ true (.inr ⟨rfl, T, L, hTLn, HTL.out.2.2.2.2.2, rfl⟩)⟩
                        · rw [hb6, show ((roots (joined st2 T L) : Nat) : Int) = (roots st2 : Int) - 1 by omega]; simp
                        · have := owns_turns HR5.out hT6 (fun b hb e => hXT (by
                            have e2 : TB = b := by simpa [Value.ownBlock] using hb
                            rw [e2]; exact e.symm))
                          rw [joined_len, ← HFL.out, ← HMN.out]
                          exact this
                        · refine PlMap.same ((hS0.map.on (hT05.block mb hS0.map.lt hmT)).on (hT6.block mb ?_ hmX)) (joined_len _ _ _) (joined_key hTl hLl) (joined_keys hTl hLl)
                          exact Nat.lt_of_lt_of_le hS0.map.lt hT05.size
                      clear hS0 hT0 hbox5 hb6 hT6 hT05 huf HR5 HSX hrj
                      generalize roots st2 = rn at *
                      go_wp2
                      go_ret
                      exact ⟨_, _, true, rfl, HFIN.out.1, HFIN.out.2.1, fun b hb => HN2.out b hb, HFIN.out.2.2⟩

end Go.Proofs.Ytcebidhfgdchlaa
