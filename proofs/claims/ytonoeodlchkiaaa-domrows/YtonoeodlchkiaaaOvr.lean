/-
  The document's own without and Over (layer 7): contracts.
-/
import Derived.Test.YtonoeodlchkiaaaCloA
import Derived.Test.YtonoeodlchkiaaaRfC
namespace Go.Proofs.Ytonoeodlchkiaaa
open Go.ChangeShapes Go.WideShapes Go.ChangeAt Go.RowKit Go.Shelf

theorem Walk.ex (g : List (List Nat)) (N : Nat) (hg : ∀ b, ∀ t ∈ g.getD b [], t < N) : ∀ (n : Nat) (m : List Bool) (T : List Nat), unmetN m ≤ n → m.length = N → (∀ t ∈ T, t < N) → ∃ m' o, Walk g T m m' o
  | n, m, [], _, _, _ => ⟨m, [], .nil m⟩
  | n, m, b :: T, hn, hm, hT => by
    have hb : b < m.length := by rw [hm]; exact hT b (by simp)
    have hT' : ∀ t ∈ T, t < N := fun t ht => hT t (by simp [ht])
    rcases hv : m[b]'hb with _ | _
    · have hbf : m[b]? = some false := by rw [List.getElem?_eq_getElem hb, hv]
      have hlt := unmetN_set m b hbf
      match n, hn with
      | 0, hn => omega
      | n + 1, hn =>
        obtain ⟨m1, o1, w1⟩ := Walk.ex g N hg n (m.set b true) (g.getD b []) (by omega) (by simpa using hm) (hg b)
        have hc := w1.count
        obtain ⟨m2, o2, w2⟩ := Walk.ex g N hg n m1 T (by omega) (by rw [w1.len]; simpa using hm) hT'
        exact ⟨m2, _, .go hbf w1 w2⟩
    · obtain ⟨m2, o2, w2⟩ := Walk.ex g N hg n m T hn hm hT'
      exact ⟨m2, o2, .skip (by rw [List.getElem?_eq_getElem hb, hv]) w2⟩
termination_by n _ T => (n, T.length)


noncomputable def domD (g : List (List Nat)) (a b : Nat) : Bool := @decide (Dom g a b) (Classical.propDecidable _)
theorem domD_true {g : List (List Nat)} {a b : Nat} (h : Dom g a b) : domD g a b = true := @decide_eq_true _ (Classical.propDecidable _) h
theorem domD_false {g : List (List Nat)} {a b : Nat} (h : ¬ Dom g a b) : domD g a b = false := @decide_eq_false _ (Classical.propDecidable _) h
theorem dom_self (g : List (List Nat)) (a : Nat) : Dom g a a := fun hp => by
  cases hp with
  | refl h => exact h rfl
  | step _ _ h => exact h rfl
theorem dom_zero (g : List (List Nat)) (b : Nat) : Dom g 0 b := fun hp => by
  have : ∀ y, Path g (· ≠ 0) 0 y → False := fun y hy => by
    induction hy with
    | refl h => exact h rfl
    | step _ _ _ ih => exact ih
  exact this b hp

set_option maxRecDepth 100000 in
set_option maxHeartbeats 4000000 in
/-- The document's without: of a right graph, and of blocks of it. -/
theorem without_is (av : Option Addr) (cap blk off : Nat) (hd : Nat → Hdr) (g : List (List Nat)) (hgr : Right g) (hl : g.length ≤ 24) (hl2 : ∀ b, (g.getD b []).length ≤ 20) (a b : Nat) (ha : a < g.length) (hb : b < g.length) (w : World) (hG : GAt w av blk off hd (castG g)) :
    Calls Try.prog 49 #[.slice av g.length cap, .int .i64 (a : Int), .int .i64 (b : Int)] w fun e w' => Below w.heap.size w w' ∧ e = .returned (.bool (!domD g a b)) := by
  have hone := hgr.one
  have h4 := copyg_is av cap blk off hd (castG g) (by rw [castG_len]; omega) (fun b => by rw [castG_at, List.length_map]; exact hl2 b) w hG
  rw [castG_len] at h4
  go_enter Try.func49, Try.ntmps49
  go_wp2_with fail
  refine h4.mono ?_
  rintro e w4 ⟨hb4, v4, rfl, hC4⟩
  clear h4
  obtain ⟨cav, ccap, cblk, chd, hve, hGC⟩ := hC4.gat
  obtain ⟨gb, cc, hve2, hgb1, hgb2⟩ := (show ∃ gb cc, v4 = .slice (some ⟨gb, 0, none⟩) (castG g).length cc ∧ w.heap.size ≤ gb ∧ gb < w4.heap.size from by
    obtain ⟨vs, ho4, _⟩ := hC4
    obtain ⟨gb, cc, e1, e2, e3⟩ := ho4.form (by rw [castG_len]; omega)
    exact ⟨gb, cc, e1, e2, e3⟩)
  have hcat := hGC.at_ (by rw [castG_len]; omega)
  subst hcat
  rw [hve] at hve2
  injection hve2 with e1 e2 e3
  injection e1 with e1
  injection e1 with e1 e1'
  subst e1
  rw [castG_len] at hve
  subst hve
  clear e2 e3
  by_cases ha0 : a = 0
  · subst ha0
    have HD := hide (domD_true (dom_zero g b))
    clear hC4 hGC hG
    go_wp2
    go_ret
    exact ⟨hb4, by rw [HD.out]; rfl⟩
  have q0 : ((a : Int) == 0) = false := by simp; omega
  have q0' : ((a : Int) = 0) = False := eq_false (by omega)
  have cG := hGC.has a (by rw [castG_len]; exact ha)
  obtain ⟨chd2, hGC2⟩ := hGC.close a (by rw [castG_len]; exact ha)
  rw [castG_close] at hGC2
  have hb45 : Below w.heap.size w (w4.setCell ⟨cblk, 0 + a, none⟩ (.slice none 0 0)) := hb4.setCell (p := ⟨cblk, 0 + a, none⟩) hgb1 _
  have hfz : w4.frozen? ⟨cblk, 0 + a, none⟩ = false := by
    obtain ⟨vs, ho4, _⟩ := hC4
    rcases ho4.2 with ⟨h', _⟩ | ⟨g', cp, cur, h1, h2, h3, _⟩
    · cases h'
    · injection h1 with h1
      injection h1 with h1
      injection h1 with h1
      subst h1
      exact frozen_of h3 _
  rw [Nat.zero_add] at cG hGC2 hb45 hfz
  have hai : ((a : Int) < (g.length : Int)) = True := eq_true (by omega)
  have hab : a ≤ 24 := by omega
  by_cases hba : b = a
  · subst hba
    have HD := hide (domD_true (dom_self g b))
    have HB := hide hb45
    clear hC4 hGC hG hGC2 hb45 hb4 ha0
    go_wp2
    go_ret
    exact ⟨HB.out, by rw [HD.out]; rfl⟩
  have q1 : ((b : Int) == (a : Int)) = false := by simp; omega
  have q1' : ((b : Int) = (a : Int)) = False := eq_false (by omega)
  obtain ⟨m', o', hw⟩ := Walk.ex (g.set a []) g.length (fun x t ht => by have := (hgr.close ha).lt x t ht; rwa [List.length_set] at this) (unmetN (List.replicate g.length false)) (List.replicate g.length false) [0] (Nat.le_refl _) (by simp) (fun t ht => by simp at ht; omega)
  have hw2 : Walk (g.set a []) [0] (List.replicate (g.set a []).length false) m' o' := by rw [List.length_set]; exact hw
  have hcr := closed_reach ha hone hw2 b hba
  have h6 := rreach_is (some ⟨cblk, 0, none⟩) ccap cblk 0 chd2 (g.set a []) (hgr.close ha) (by rw [List.length_set]; omega) 0 (by rw [List.length_set]; omega) m' o' hw2 _ hGC2
  rw [List.length_set] at h6
  have H6 := hide h6
  have HB := hide hb45
  have HCR := hide hcr
  have hbi : ((b : Int) < (g.length : Int)) = True := eq_true (by omega)
  have hbb : b ≤ 24 := by omega
  have hsz5 : (w4.setCell ⟨cblk, a, none⟩ (.slice none 0 0)).heap.size = w4.heap.size := by simp [World.setCell]
  clear h6 hC4 hGC hG hGC2 hb45 hb4 ha0 hw hw2 hcr hba hsz5
  go_wp2_with fail
  refine H6.out.mono ?_
  clear H6
  rintro e w6 ⟨hb6, R, hR, rfl, hRf⟩
  have cR : w6.cell? ⟨R, b, none⟩ = some (.bool (decide (b ∈ o'))) := by
    rw [cell_of hRf, List.getElem?_toArray, List.getElem?_map, flg_at _ _ _ hb]; rfl
  have HD : Hid (decide (b ∈ o') = !domD g a b) := by
    rw [Hid]
    by_cases hd : Dom g a b
    · rw [domD_true hd, decide_eq_false (fun h => HCR.out.1 h hd)]; rfl
    · rw [domD_false hd, decide_eq_true (HCR.out.2 hd)]; rfl
  have hbz := bel_two HB.out hb6
  clear hb6 hRf HB
  generalize decide (b ∈ o') = bb at *
  go_wp2
  go_ret
  exact ⟨hbz, by rw [HD.out]; rfl⟩

set_option maxRecDepth 100000 in
set_option maxHeartbeats 2000000 in
/-- The document's Over. -/
theorem over_is (av : Option Addr) (cap blk off : Nat) (hd : Nat → Hdr) (g : List (List Nat)) (hgr : Right g) (hl : g.length ≤ 24) (hl2 : ∀ b, (g.getD b []).length ≤ 20) (a b : Nat) (ha : a < g.length) (hb : b < g.length) (w : World) (hG : GAt w av blk off hd (castG g)) :
    Calls Try.prog 33 #[.slice av g.length cap, .int .i64 (a : Int), .int .i64 (b : Int)] w fun e w' => Below w.heap.size w w' ∧ e = .returned (.bool (domD g a b)) := by
  have HW := hide (without_is av cap blk off hd g hgr hl hl2 a b ha hb w hG)
  clear hG
  go_enter Try.func33, Try.ntmps33
  by_cases hab : a = b
  · subst hab
    have HD := hide (domD_true (dom_self g a))
    go_wp2
    go_ret
    exact ⟨Below.refl _ _, by rw [HD.out]; rfl⟩
  · have q1 : ((a : Int) == (b : Int)) = false := by simp; omega
    have q1' : ((a : Int) = (b : Int)) = False := eq_false (by omega)
    clear hab
    go_wp2_with fail
    refine HW.out.mono ?_
    rintro e w2 ⟨hb2, rfl⟩
    clear HW
    generalize hbb : domD g a b = bb at *
    have HBB := hide hbb
    clear hbb
    go_wp2
    go_ret
    exact ⟨hb2, by rw [HBB.out]; cases bb <;> rfl⟩

end Go.Proofs.Ytonoeodlchkiaaa
