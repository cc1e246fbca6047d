/-
  The document's own counts and Dominates (layer 7): contracts.
-/
import Derived.Test.YtonoeodlchkiaaaDmt
namespace Go.Proofs.Ytonoeodlchkiaaa
open Go.ChangeShapes Go.WideShapes Go.ChangeAt Go.RowKit Go.Shelf

set_option maxRecDepth 100000 in
set_option maxHeartbeats 1000000 in
/-- The document's counts, of a row of idom. -/
theorem counts_is (g : List (List Nat)) (hn : g.length ≤ 4096) (o : List Nat) (ho : Ord g o) (d : List Int) (hf : Fin g o d) (B cap : Nat) (x : Int) (w : World) (hB : ∀ x, x < g.length → w.cell? ⟨B, x, none⟩ = some (.int .i64 (ask d x))) :
    Calls Try.prog 30 #[.slice (some ⟨B, 0, none⟩) g.length cap, .int .i64 x] w fun e w' => e = .returned (.bool (@decide (∃ y : Nat, x = (y : Int) ∧ y ∈ o) (Classical.propDecidable _))) ∧ w' = w := by
  by_cases h1 : 0 ≤ x
  · obtain ⟨k, rfl⟩ := Int.eq_ofNat_of_zero_le h1
    have q1 : ((0 : Int) ≤ (k : Int)) = True := eq_true h1
    by_cases h2 : k < g.length
    · have q2 : ((k : Int) < (g.length : Int)) = True := eq_true (by omega)
      have ck := hB k h2
      have hkb : k ≤ 4096 := by omega
      by_cases h0 : k = 0
      · subst h0
        have HF : Hid (@decide (∃ y : Nat, ((0 : Nat) : Int) = (y : Int) ∧ y ∈ o) (Classical.propDecidable _) = true) := @decide_eq_true _ (Classical.propDecidable _) ⟨0, rfl, ho.zero⟩
        clear ck hB h1 q1
        go_enter Try.func30, Try.ntmps30
        go_wp2
        go_ret
        exact ⟨by rw [HF.out]; rfl, rfl⟩
      · have q3 : ((k : Int) == 0) = false := by simp; omega
        have q3' : ((k : Int) = 0) = False := eq_false (by omega)
        by_cases hko : k ∈ o
        · have HF : Hid (@decide (∃ y : Nat, (k : Int) = (y : Int) ∧ y ∈ o) (Classical.propDecidable _) = true) := @decide_eq_true _ (Classical.propDecidable _) ⟨k, rfl, hko⟩
          obtain ⟨y, hy, _⟩ := hf.toTr.next (hf.told hko) h0
          rw [hy] at ck
          have q4 : ((0 : Int) ≤ (y : Int)) = True := eq_true (by omega)
          clear hB h1 h0 hko hy
          go_enter Try.func30, Try.ntmps30
          go_wp2
          go_ret
          exact ⟨by rw [HF.out]; rfl, rfl⟩
        · have HF : Hid (@decide (∃ y : Nat, (k : Int) = (y : Int) ∧ y ∈ o) (Classical.propDecidable _) = false) := @decide_eq_false _ (Classical.propDecidable _) (fun ⟨y, e, hy⟩ => hko (by rw [Int.ofNat.inj e]; exact hy))
          rw [hf.none hko] at ck
          clear hB h1 h0 hko
          go_enter Try.func30, Try.ntmps30
          go_wp2
          go_ret
          exact ⟨by rw [HF.out]; rfl, rfl⟩
    · have q2 : ((k : Int) < (g.length : Int)) = False := eq_false (by omega)
      have HF : Hid (@decide (∃ y : Nat, (k : Int) = (y : Int) ∧ y ∈ o) (Classical.propDecidable _) = false) := @decide_eq_false _ (Classical.propDecidable _) (fun ⟨y, e, hy⟩ => h2 (by have := ho.lt y hy; omega))
      clear hB h1 h2
      go_enter Try.func30, Try.ntmps30
      go_wp2
      go_ret
      exact ⟨by rw [HF.out]; rfl, rfl⟩
  · have q1 : ((0 : Int) ≤ x) = False := eq_false h1
    have HF : Hid (@decide (∃ y : Nat, x = (y : Int) ∧ y ∈ o) (Classical.propDecidable _) = false) := @decide_eq_false _ (Classical.propDecidable _) (fun ⟨y, e, hy⟩ => h1 (by omega))
    clear hB h1
    go_enter Try.func30, Try.ntmps30
    go_wp2
    go_ret
    exact ⟨by rw [HF.out]; rfl, rfl⟩

set_option maxRecDepth 100000 in
set_option maxHeartbeats 2000000 in
/-- The document's Dominates, of a row of idom. -/
theorem rdominates_is (g : List (List Nat)) (hn : g.length ≤ 4096) (o : List Nat) (ho : Ord g o) (d : List Int) (hf : Fin g o d) (B cap : Nat) (a b : Int) (w : World) (hB : ∀ x, x < g.length → w.cell? ⟨B, x, none⟩ = some (.int .i64 (ask d x))) :
    Calls Try.prog 11 #[.slice (some ⟨B, 0, none⟩) g.length cap, .int .i64 a, .int .i64 b] w fun e w' => e = .returned (.bool (domB o d a b)) ∧ w' = w := by
  have HCA := hide (counts_is g hn o ho d hf B cap a w hB)
  have HCB := hide (counts_is g hn o ho d hf B cap b w hB)
  by_cases ha : ∃ x : Nat, a = (x : Int) ∧ x ∈ o
  case neg =>
    have HN : Hid (domB o d a b = false) := domB_false fun ⟨x, y, h1, h2, h3, h4, h5⟩ => ha ⟨x, h1, h3⟩
    rw [@decide_eq_false _ (Classical.propDecidable _) ha] at HCA
    clear hB ha
    go_enter Try.func11, Try.ntmps11
    go_wp2_with fail
    refine HCA.out.mono ?_
    rintro e w' ⟨rfl, rfl⟩
    go_wp2
    go_ret
    exact ⟨by rw [HN.out]; rfl, rfl⟩
  by_cases hb : ∃ y : Nat, b = (y : Int) ∧ y ∈ o
  case neg =>
    have HN : Hid (domB o d a b = false) := domB_false fun ⟨x, y, h1, h2, h3, h4, h5⟩ => hb ⟨y, h2, h4⟩
    rw [@decide_eq_true _ (Classical.propDecidable _) ha] at HCA
    rw [@decide_eq_false _ (Classical.propDecidable _) hb] at HCB
    clear hB ha hb
    go_enter Try.func11, Try.ntmps11
    go_wp2_with fail
    refine HCA.out.mono ?_
    rintro e w' ⟨rfl, rfl⟩
    go_wp2_with fail
    refine HCB.out.mono ?_
    rintro e w' ⟨rfl, rfl⟩
    go_wp2
    go_ret
    exact ⟨by rw [HN.out]; rfl, rfl⟩
  rw [@decide_eq_true _ (Classical.propDecidable _) ha] at HCA
  rw [@decide_eq_true _ (Classical.propDecidable _) hb] at HCB
  obtain ⟨x, rfl, hx⟩ := ha
  obtain ⟨y, rfl, hy⟩ := hb
  have HB := hide hB
  have HF := hide hf
  have HO := hide ho
  have hyt := hf.told hy
  have hpy := plc_le_len ho y
  clear hB hf ho
  go_enter Try.func11, Try.ntmps11
  go_wp2_with fail
  refine HCA.out.mono ?_
  rintro e w' ⟨rfl, rfl⟩
  go_wp2_with fail
  refine HCB.out.mono ?_
  rintro e w' ⟨rfl, rfl⟩
  clear HCA HCB
  go_wp2
  go_loopw [7, 2] (fun i v W => ∃ (k : Nat) (s : List Nat) (z : Int), i = .int .i64 k ∧ v = .int .i64 z ∧ W = w' ∧ s.length = k ∧ x ∉ s ∧ ((∃ c : Nat, z = (c : Int) ∧ Chain d y s c) ∨ (z = -1 ∧ ∃ s', s = s' ++ [0] ∧ Chain d y s' 0))) (fun i _ _ => g.length + 1 - (intOf i).toNat)
  case atStart => exact ⟨0, [], y, rfl, rfl, rfl, rfl, by simp, .inl ⟨y, rfl, .nil⟩⟩
  case round =>
    obtain ⟨k, s, z, rfl, rfl, rfl, hsl, hxs, hor⟩ := hrel
    rcases hor with ⟨c, rfl, hch⟩ | ⟨rfl, s', rfl, hch⟩
    · obtain ⟨hct, hcp⟩ := hch.places HF.out.toTr hyt
      have hc0 := (HO.out.pos c).1 hct.1
      have hcl := HO.out.lt c hct.1
      have hkl : k < g.length := by omega
      have e1 : ((k : Int) ≤ (g.length : Int)) = True := eq_true (by omega)
      have ck := HB.out c hcl
      by_cases hxc : x = c
      · subst hxc
        have HN : Hid (domB o d (x : Int) (y : Int) = true) := domB_true.2 ⟨x, y, rfl, rfl, hx, hy, hch.anc.1⟩
        clear hch hxs hsl hcp hc0 hct
        go_wp2
        go_ret
        exact ⟨by rw [HN.out]; rfl, rfl⟩
      · have e2 : ((x : Int) == (c : Int)) = false := by simp; omega
        have e2' : ((x : Int) = (c : Int)) = False := eq_false (by omega)
        have e3 : ((c : Int) < 0) = False := eq_false (by omega)
        have e4 : ((g.length : Int) ≤ (c : Int)) = False := eq_false (by omega)
        have e5 : ((c : Int) < (g.length : Int)) = True := eq_true (by omega)
        have hcb : c ≤ 4096 := by omega
        have HOR : Hid ((∃ c2 : Nat, ask d c = (c2 : Int) ∧ Chain d y (s ++ [c]) c2) ∨ (ask d c = -1 ∧ ∃ s', s ++ [c] = s' ++ [0] ∧ Chain d y s' 0)) := by
          by_cases h00 : c = 0
          · subst h00; exact .inr ⟨HF.out.zero, s, rfl, hch⟩
          · obtain ⟨u, h1, h2, h3⟩ := HF.out.toTr.next hct h00
            exact .inl ⟨u, h1, .snoc hch h1⟩
        have HXS : Hid (x ∉ s ++ [c]) := by rw [Hid]; simp [hxs, hxc]
        clear hch hcp hc0 hct hxs hxc
        generalize ask d c = ac at *
        go_wp2
        go_roundw
        case rel => exact ⟨k + 1, s ++ [c], ac, by go_num, by first | rfl | trivial, by first | rfl | trivial, by rw [List.length_append, hsl]; rfl, HXS.out, HOR.out⟩
        case measure => simp [intOf]; omega
    · obtain ⟨hct, hcp⟩ := hch.places HF.out.toTr hyt
      have hc0 := HO.out.first
      have hkl : k ≤ g.length := by rw [List.length_append] at hsl; simp at hsl; omega
      have e1 : ((k : Int) ≤ (g.length : Int)) = True := eq_true (by omega)
      have HN : Hid (domB o d (x : Int) (y : Int) = false) := domB_false fun ⟨x', y', h1, h2, _, _, h5⟩ => by
        have ex : x' = x := by omega
        have ey : y' = y := by omega
        subst ex; subst ey
        exact hxs (hch.all HF.out.zero h5)
      have e2 : ((x : Int) == -1) = false := beq_eq_false_iff_ne.2 (by omega)
      have e2' : ((x : Int) = -1) = False := eq_false (by omega)
      clear hch hcp hc0 hct hxs hsl
      go_wp2
      go_ret
      exact ⟨by rw [HN.out]; rfl, rfl⟩

end Go.Proofs.Ytonoeodlchkiaaa
