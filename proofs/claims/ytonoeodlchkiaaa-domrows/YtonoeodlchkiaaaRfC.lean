/-
  The document's own Reach (layer 6): its contract.
-/
import Derived.Test.YtonoeodlchkiaaaRfB
namespace Go.Proofs.Ytonoeodlchkiaaa
open Go.ChangeShapes Go.WideShapes Go.ChangeAt Go.RowKit Go.Shelf

def isOff : Value → Bool
  | .bool false => true
  | _ => false
def onN : Value → Nat
  | .bool true => 1
  | _ => 0
/-- How many flags of a block are not set. -/
def offN (W : World) (A : Nat) : Nat := match W.heap[A]? with
  | some (.cells cs _ _) => cs.toList.countP isOff
  | _ => 0
theorem offN_is {W : World} {A : Nat} {m : List Bool} (h : W.heap[A]? = some (flagsO m)) : offN W A = unmetN m := by
  unfold offN
  rw [h]
  simp only [unmetN]
  rw [List.countP_map]
  congr 1
  funext b
  cases b <;> rfl

/-- Flags on the way to what is reached: those of o alone, the beginning among them. -/
structure Half (g : List (List Nat)) (o : List Nat) (s0 : Nat) (m : List Bool) : Prop where
  len : m.length = g.length
  snd : ∀ x, m[x]? = some true → x ∈ o
  st : m[s0]? = some true
theorem Half.put {g : List (List Nat)} {o : List Nat} {s0 : Nat} {m : List Bool} (h : Half g o s0 m) {x : Nat} (hx : x ∈ o) (hm : m[x]? = some false) : Half g o s0 (m.set x true) :=
  ⟨by rw [List.length_set]; exact h.len, fun y hy => by rcases (set_at m x y hm).1 hy with h' | rfl; exact h.snd y h'; exact hx, (set_at m x s0 hm).2 (.inl h.st)⟩
theorem Half.done {g : List (List Nat)} {o : List Nat} {s0 : Nat} {m m' : List Bool} (h : Half g o s0 m) (hw : Walk g [s0] (List.replicate g.length false) m' o) (hc : ∀ b, m[b]? = some true → ∀ t ∈ g.getD b [], m[t]? = some true) : m = flg g.length o := by
  have hin : ∀ y, Path g (· ∈ o) s0 y → m[y]? = some true := fun y hy => by
    induction hy with
    | refl _ => exact h.st
    | step _ he _ ih => exact hc _ ih _ he
  apply List.ext_getElem?
  intro x
  by_cases hx : x < g.length
  · rw [flg_at _ _ _ hx]
    by_cases ho : x ∈ o
    · obtain ⟨s, hs, hp⟩ := hw.path x ho
      simp at hs; subst hs
      rw [hin x hp]; simp [ho]
    · have e := List.getElem?_eq_getElem (l := m) (i := x) (by rw [h.len]; exact hx)
      cases hv : m[x]'(by rw [h.len]; exact hx) with
      | false => rw [e, hv]; simp [ho]
      | true => exact absurd (h.snd x (by rw [e, hv])) ho
  · rw [List.getElem?_eq_none (by rw [h.len]; omega), List.getElem?_eq_none (by rw [flg_len]; omega)]
/-- What a sweep has done. -/
def Swept (g : List (List Nat)) (m0 m : List Bool) (more : Bool) (k j : Nat) : Prop := (more = false ∧ m = m0 ∧ (∀ b, b < k → m0[b]? = some true → ∀ t ∈ g.getD b [], m0[t]? = some true) ∧ ∀ p, p < j → m0[(g.getD k []).getD p 0]? = some true) ∨ (more = true ∧ unmetN m < unmetN m0)
theorem Swept.next {g : List (List Nat)} {m0 m : List Bool} {more : Bool} {k j : Nat} (h : Swept g m0 m more k j) (hk : (g.getD k []).length ≤ j ∨ m[k]? = some false) : Swept g m0 m more (k + 1) 0 := by
  rcases h with ⟨h1, h2, h3, h4⟩ | h
  · refine .inl ⟨h1, h2, fun b hb hm t ht => ?_, fun p hp => absurd hp (Nat.not_lt_zero _)⟩
    rcases Nat.lt_or_ge b k with h' | h'
    · exact h3 b h' hm t ht
    · obtain rfl : b = k := by omega
      rcases hk with hk | hk
      · obtain ⟨p, hp, rfl⟩ := List.getElem_of_mem ht
        have := h4 p (by omega)
        rwa [List.getD_eq_getElem?_getD, List.getElem?_eq_getElem hp] at this
      · rw [h2, hm] at hk; cases hk
  · exact .inr h
theorem Swept.found {g : List (List Nat)} {m0 m : List Bool} {more : Bool} {k j x : Nat} (h : Swept g m0 m more k j) (hm : m[x]? = some false) (k' j' : Nat) : Swept g m0 (m.set x true) true k' j' := by
  have := unmetN_set m x hm
  rcases h with ⟨_, h2, _⟩ | ⟨_, h2⟩
  · exact .inr ⟨rfl, by rw [← h2]; omega⟩
  · exact .inr ⟨rfl, by omega⟩
theorem Swept.step {g : List (List Nat)} {m0 m : List Bool} {more : Bool} {k j : Nat} (h : Swept g m0 m more k j) (hm : m[(g.getD k []).getD j 0]? = some true) : Swept g m0 m more k (j + 1) := by
  rcases h with ⟨h1, h2, h3, h4⟩ | h
  · refine .inl ⟨h1, h2, h3, fun p hp => ?_⟩
    rcases Nat.lt_or_ge p j with h' | h'
    · exact h4 p h'
    · obtain rfl : p = j := by omega
      rw [← h2]; exact hm
  · exact .inr h
theorem flag_some (m : List Bool) (x : Nat) (h : x < m.length) : ∃ b, m[x]? = some b := ⟨m[x], List.getElem?_eq_getElem h⟩

set_option maxRecDepth 100000 in
set_option maxHeartbeats 4000000 in
/-- The document's Reach of a right graph, from one of its blocks. -/
theorem rreach_is (av : Option Addr) (cap blk off : Nat) (hd : Nat → Hdr) (g : List (List Nat)) (hgr : Right g) (hl : g.length ≤ 40) (s0 : Nat) (hs0 : s0 < g.length) (m' : List Bool) (o : List Nat) (hw : Walk g [s0] (List.replicate g.length false) m' o) (w : World) (hG : GAt w av blk off hd (castG g)) :
    Calls Try.prog 32 #[.slice av g.length cap, .int .i64 (s0 : Int)] w fun e w' => Below w.heap.size w w' ∧ ∃ R, w.heap.size ≤ R ∧ e = .returned (.slice (some ⟨R, 0, none⟩) g.length g.length) ∧ w'.heap[R]? = some (flagsO (flg g.length o)) := by
  have hrows := hgr.rows
  have hr := rright_is av cap blk off hd (castG g) (by rw [castG_len]; exact hl) (fun b => by rw [castG_at, List.length_map]; have := hrows b; omega) w hG
  rw [castG_len, rightB_true.2 hgr.toI] at hr
  have hcl : ∀ x ∈ o, ∀ v ∈ g.getD x [], v ∈ o := fun x hx v hv => by
    have := hw.closed x hx v hv
    rw [hw.met] at this
    rcases this with h' | h'
    · exact ((repl_at _ _).1 h').elim
    · exact h'
  have hso : s0 ∈ o := by
    have := hw.todo s0 (by simp)
    rw [hw.met] at this
    rcases this with h' | h'
    · exact ((repl_at _ _).1 h').elim
    · exact h'
  have HW := hide hw
  have HCL := hide hcl
  have HG := hide hG
  clear hG hcl hw
  have mk := make_flags g.length (by omega)
  have q1 : ((s0 : Int) < 0) = False := eq_false (by omega)
  have q2 : ((g.length : Int) ≤ (s0 : Int)) = False := eq_false (by omega)
  have q3 : (g.length ≤ s0) = False := eq_false (by omega)
  have q4 : ((s0 : Int) < (g.length : Int)) = True := eq_true (by omega)
  have kp0 := World.alloc_heap_new w (flagsO (List.replicate g.length false))
  have f0 := frozen_of kp0 s0
  have c0 : (w.alloc (flagsO (List.replicate g.length false))).cell? ⟨w.heap.size, s0, none⟩ = some (.bool false) := by
    rw [cell_of kp0, List.getElem?_toArray, List.getElem?_map, List.getElem?_replicate, if_pos hs0]; rfl
  have eo : (Array.replicate g.length (Value.bool false)).setIfInBounds s0 (Value.bool true) = (((List.replicate g.length false).set s0 true).map Value.bool).toArray := by
    rw [List.map_set, List.map_replicate, ← List.setIfInBounds_toArray, List.toArray_replicate]
  have kp1 : (w.alloc (.cells ((Array.replicate g.length (Value.bool false)).setIfInBounds s0 (Value.bool true)) 4)).heap[w.heap.size]? = some (flagsO ((List.replicate g.length false).set s0 true)) := by
    rw [eo]; exact World.alloc_heap_new w _
  have hh0 : Half g o s0 ((List.replicate g.length false).set s0 true) := by
    have e : (List.replicate g.length false)[s0]? = some false := by rw [List.getElem?_replicate, if_pos hs0]
    refine ⟨by simp, fun x hx => ?_, (set_at _ _ _ e).2 (.inr rfl)⟩
    rcases (set_at _ _ _ e).1 hx with h | h
    · exact ((repl_at _ _).1 h).elim
    · rw [h]; exact hso
  have hB1 : Below w.heap.size w (w.alloc (.cells ((Array.replicate g.length (Value.bool false)).setIfInBounds s0 (Value.bool true)) 4)) := (Below.refl w.heap.size w).alloc (Nat.le_refl _) _
  have HK := hide (And.intro kp1 (And.intro hh0 hB1))
  clear kp1 hh0 hB1 kp0 eo
  go_enter Try.func32, Try.ntmps32
  go_wp2_with fail
  refine hr.mono ?_
  rintro e w1 ⟨rfl, rfl⟩
  clear hr
  go_wp2
  clear q1 q2 q3 q4 mk c0 f0
  obtain ⟨kp1, hh0, hB1⟩ := HK.out
  clear HK
  generalize w1.alloc (.cells ((Array.replicate g.length (Value.bool false)).setIfInBounds s0 (Value.bool true)) 4) = w2 at *
  generalize hA : w1.heap.size = A at *
  generalize (List.replicate g.length false).set s0 true = m1 at *
  go_loopw [7] (fun mv W => ∃ (m : List Bool) (more : Bool), mv = .bool more ∧ Below A w1 W ∧ W.heap[A]? = some (flagsO m) ∧ Half g o s0 m ∧ (more = false → ∀ b, m[b]? = some true → ∀ t ∈ g.getD b [], m[t]? = some true)) (fun mv W => 2 * offN W A + onN mv)
  case atStart => exact ⟨m1, true, rfl, hB1, kp1, hh0, fun h => by cases h⟩
  case round =>
    obtain ⟨m0, more, rfl, hBW, kp, hH, hcl⟩ := hrel
    clear hB1 kp1 hh0
    cases more with
    | false =>
      have HC := hide (hcl rfl)
      clear hcl
      have HF := hide (hH.done HW.out HC.out)
      have HKP := hide kp
      clear kp
      go_wp2
      go_ret
      refine ⟨by rw [hA]; exact hBW, A, by omega, rfl, ?_⟩
      rw [HKP.out, HF.out]
    | true =>
      clear hcl
      have HOFF := hide (offN_is kp)
      go_wp2
      go_loopw [8, 7] (fun i mv W => ∃ (k : Nat) (m : List Bool) (more : Bool), i = .int .i64 k ∧ k ≤ g.length ∧ mv = .bool more ∧ Below A w1 W ∧ W.heap[A]? = some (flagsO m) ∧ Half g o s0 m ∧ Swept g m0 m more k 0) (fun i _ _ => g.length - (intOf i).toNat)
      case atStart => exact ⟨0, m0, false, rfl, Nat.zero_le _, rfl, hBW, kp, hH, .inl ⟨rfl, rfl, fun b hb => absurd hb (Nat.not_lt_zero _), fun p hp => absurd hp (Nat.not_lt_zero _)⟩⟩
      case round =>
        obtain ⟨k, m, more, rfl, hk, rfl, hBk, kpk, hHk, hS⟩ := hrel
        clear hBW kp hH
        by_cases hkl : k < g.length
        · have e1 : ((k : Int) < (g.length : Int)) = True := eq_true (by omega)
          have hkb : k ≤ 4096 := by omega
          go_wp2
          go_loopw [9, 7] (fun i mv W => ∃ (j : Nat) (m : List Bool) (more : Bool), i = .int .i64 j ∧ j ≤ (g.getD k []).length ∧ mv = .bool more ∧ Below A w1 W ∧ W.heap[A]? = some (flagsO m) ∧ Half g o s0 m ∧ Swept g m0 m more k j) (fun i _ _ => (g.getD k []).length - (intOf i).toNat)
          case atStart => exact ⟨0, m, more, rfl, Nat.zero_le _, rfl, hBk, kpk, hHk, hS⟩
          case round =>
            clear hBk kpk hHk hS
            obtain ⟨j, m2, more2, rfl, hj, rfl, hB2, kp2, hH2, hS2⟩ := hrel
            have hG2 := HG.out.below (by rw [hA]; exact hB2)
            obtain rfl := hG2.at_ (by rw [castG_len]; omega)
            have c1 := hG2.has k (by rw [castG_len]; exact hkl)
            rw [castG_at, List.length_map] at c1
            obtain ⟨bk, hbk⟩ := flag_some m2 k (by rw [hH2.len]; exact hkl)
            have cA : wr.cell? ⟨A, k, none⟩ = some (.bool bk) := by rw [cell_of kp2, List.getElem?_toArray, List.getElem?_map, hbk]; rfl
            have hr8 := hrows k
            by_cases hjl : j < (g.getD k []).length
            · have e2 : ((j : Int) < ((g.getD k []).length : Int)) = True := eq_true (by omega)
              cases bk with
              | false =>
                have HN := hide (hS2.next (.inr hbk))
                have HKP := hide kp2
                clear hS2 kp2 hG2
                generalize (g.getD k []).length = rl at *
                go_wp2
                go_roundw
                case rel => exact ⟨k + 1, m2, more2, by go_num, by omega, rfl, hB2, HKP.out, hH2, HN.out⟩
                case measure => simp [intOf]; omega
              | true =>
                have hav := hG2.rat k (by rw [castG_len]; exact hkl) (by rw [castG_at, List.length_map]; omega)
                rw [hav] at c1
                have c2 := hG2.rhas k j (by rw [castG_len]; exact hkl) (by rw [castG_at, List.length_map]; exact hjl)
                rw [castG_at, cast_at] at c2
                have hto : (g.getD k []).getD j 0 ∈ o := HCL.out k (hH2.snd k hbk) _ (getD_mem _ _ hjl)
                have htl : (g.getD k []).getD j 0 < g.length := hgr.lt k _ (getD_mem _ _ hjl)
                obtain ⟨bt, hbt⟩ := flag_some m2 ((g.getD k []).getD j 0) (by rw [hH2.len]; exact htl)
                have cT : wr.cell? ⟨A, (g.getD k []).getD j 0, none⟩ = some (.bool bt) := by rw [cell_of kp2, List.getElem?_toArray, List.getElem?_map, hbt]; rfl
                cases bt with
                | true =>
                  have HN := hide (hS2.step hbt)
                  have HKP := hide kp2
                  clear hS2 kp2 hG2 hto hbt hav
                  generalize (g.getD k []).getD j 0 = t at *
                  generalize (g.getD k []).length = rl at *
                  have hti : ((t : Int) < (g.length : Int)) = True := eq_true (by omega)
                  have htb : t ≤ 4096 := by omega
                  go_wp2
                  go_roundw
                  case rel => exact ⟨j + 1, m2, more2, by go_num, by omega, rfl, hB2, HKP.out, hH2, HN.out⟩
                  case measure => simp [intOf]; omega
                | false =>
                  have HN := hide (hS2.found hbt k (j + 1))
                  have HH := hide (hH2.put hto hbt)
                  have HKP := hide (set_flags kp2 ((g.getD k []).getD j 0) true)
                  have HBB := hide (hB2.setCell (p := ⟨A, (g.getD k []).getD j 0, none⟩) (Nat.le_refl _) (.bool true))
                  have f3 := frozen_of kp2 ((g.getD k []).getD j 0)
                  clear hS2 kp2 hG2 hto hbt hav hH2 hB2
                  generalize (g.getD k []).getD j 0 = t at *
                  generalize (g.getD k []).length = rl at *
                  have hti : ((t : Int) < (g.length : Int)) = True := eq_true (by omega)
                  have htb : t ≤ 4096 := by omega
                  go_wp2
                  go_roundw
                  case rel => exact ⟨j + 1, m2.set t true, true, by go_num, by omega, rfl, HBB.out, HKP.out, HH.out, HN.out⟩
                  case measure => simp [intOf]; omega
            · have e2 : ((j : Int) < ((g.getD k []).length : Int)) = False := eq_false (by omega)
              have HN := hide (hS2.next (.inl (by omega)))
              have HKP := hide kp2
              clear hS2 kp2 hG2
              generalize (g.getD k []).length = rl at *
              go_wp2
              go_roundw
              case rel => exact ⟨k + 1, m2, more2, by go_num, by omega, rfl, hB2, HKP.out, hH2, HN.out⟩
              case measure => simp [intOf]; omega
        · have e1 : ((k : Int) < (g.length : Int)) = False := eq_false (by omega)
          have HKP := hide kpk
          have HM := hide (offN_is kpk)
          have HS := hide hS
          clear kpk hS
          go_wp2
          go_roundw
          case rel =>
            refine ⟨m, more, rfl, hBk, HKP.out, hHk, fun h b hb t ht => ?_⟩
            rcases HS.out with ⟨_, h2, h3, _⟩ | ⟨h1, _⟩
            · rw [h2] at hb ⊢
              have hbl : b < g.length := by
                rcases Nat.lt_or_ge b g.length with h' | h'
                · exact h'
                · rw [getD_ge g b h'] at ht; cases ht
              exact h3 b (by omega) hb t ht
            · rw [h] at h1; cases h1
          case measure =>
            have a1 := HM.out
            have a2 := HOFF.out
            rcases HS.out with ⟨h1, h2, _, _⟩ | ⟨h1, h2⟩
            · subst h1; subst h2
              show 2 * offN wr A + 0 < 2 * offN _ A + 1
              omega
            · subst h1
              show 2 * offN wr A + 1 < 2 * offN _ A + 1
              omega

end Go.Proofs.Ytonoeodlchkiaaa
