/-
  The document's own Places, has and Back (layer 6): their contracts.
-/
import Derived.Test.YtchnjjdhffmkpaaRfF
import Derived.Test.YtchnjjdhffmkpaaOnwA
namespace Go.Proofs.Ytchnjjdhffmkpaa
open Go.ChangeShapes Go.WideShapes Go.ChangeAt Go.RowKit Go.Shelf

/-- A block's place in an order, from 0 on; -1 of one that is not there. -/
def plI (l : List Nat) (x : Nat) : Int := (plc l x : Int) - 1
def plm (n : Nat) (l : List Nat) : List Value := (List.range n).map fun x => .int .i64 (plI l x)
theorem plm_len (n : Nat) (l : List Nat) : (plm n l).length = n := by simp [plm]
theorem plm_nil (n : Nat) (cs : List Value) (h : cs.length = n) (h2 : ∀ x, x < n → cs[x]? = some (.int .i64 (-1))) : cs = plm n [] := by
  apply List.ext_getElem?
  intro i
  by_cases hi : i < n
  · rw [h2 i hi]; simp [plm, hi, plI, plc]
  · rw [List.getElem?_eq_none (by omega), List.getElem?_eq_none (by rw [plm_len]; omega)]
theorem plm_set (n : Nat) (l : List Nat) (b : Nat) (hb : b ∉ l) : (plm n l).set b (.int .i64 (l.length : Int)) = plm n (l ++ [b]) := by
  apply List.ext_getElem?
  intro i
  by_cases hi : i < n
  · by_cases hx : b = i
    · subst hx; rw [List.getElem?_set_self (by rw [plm_len]; exact hi)]; simp [plm, plI, hi, plc_snoc _ _ _ hb]
    · rw [List.getElem?_set_ne hx]; simp [plm, plI, hi, plc_snoc _ _ _ hb, Ne.symm hx]
  · rw [List.getElem?_eq_none (by rw [List.length_set, plm_len]; omega), List.getElem?_eq_none (by rw [plm_len]; omega)]
theorem plm_at (n : Nat) (l : List Nat) (x : Nat) (h : x < n) : (plm n l)[x]? = some (.int .i64 (plI l x)) := by simp [plm, h]

set_option maxRecDepth 100000 in
set_option maxHeartbeats 4000000 in
/-- Places of what Order tells. -/
theorem places_of (av : Option Addr) (n cap : Nat) (hl : n ≤ 40) (w : World) (X : List Nat → Prop) (hord : Calls Try.prog 25 #[.slice av n cap] w fun e w' => Below w.heap.size w w' ∧ ∃ v l, e = .returned v ∧ w'.ownsRow w.heap.size 3 1 v l.length (intsV l) ∧ l.Nodup ∧ (∀ x ∈ l, x < n) ∧ X l) :
    Calls Try.prog 37 #[.slice av n cap] w fun e w' => Below w.heap.size w w' ∧ ∃ P l, w.heap.size ≤ P ∧ e = .returned (.slice (some ⟨P, 0, none⟩) n n) ∧ w'.heap[P]? = some (.cells (plm n l).toArray 3 (0, 0)) ∧ X l := by
  have mk := make_ints n (by omega)
  have HORD := hide hord
  clear hord
  go_enter Try.func37, Try.ntmps37
  go_wp2_with fail
  refine HORD.out.mono ?_
  clear HORD
  rintro e w1 ⟨hb1, v, l, rfl, ho, hnd, hlt, hX⟩
  have hs1 := hb1.size
  have hll : l.length ≤ n := by
    have h1 := hnd.length_le_of_subset (l₂ := List.range n) (fun x hx => List.mem_range.2 (hlt x hx))
    rwa [List.length_range] at h1
  obtain ⟨oav, ocap, OB, OO, hoe, ho2, ho3⟩ := RowN.of_owns ho
  rw [List.length_map] at hoe ho2 ho3
  subst hoe
  have HOC : Hid (∀ j, j < l.length → oav = some ⟨OB, OO, none⟩ ∧ OB < w1.heap.size ∧ w1.cell? ⟨OB, OO + j, none⟩ = some (.int .i64 ((l.getD j 0 : Nat) : Int)) ∧ l.getD j 0 < n ∧ l.getD j 0 ∉ l.take j ∧ l.take (j + 1) = l.take j ++ [l.getD j 0]) := fun j hj => by
    have h1 := take_next l j hj
    refine ⟨(ho2 (by omega)).1, (ho2 (by omega)).2, by rw [ho3 j hj, cast_at], hlt _ (getD_mem _ _ hj), fun hm => ?_, h1⟩
    have h2 := hnd.sublist (List.take_sublist (j + 1) l)
    rw [h1, List.nodup_append] at h2
    exact h2.2.2 _ hm _ (by simp) rfl
  have HX := hide hX
  clear ho ho2 ho3 hnd hlt hX
  have kp := World.alloc_heap_new w1 (.cells (List.replicate n (.int .i64 0)).toArray 3)
  have hb2 : Below w1.heap.size w1 (w1.alloc (.cells (List.replicate n (.int .i64 0)).toArray 3)) := (Below.refl _ w1).alloc (Nat.le_refl _) _
  have HK := hide (And.intro kp hb2)
  clear kp hb2
  go_wp2
  rw [← List.toArray_replicate]
  obtain ⟨kp, hb2⟩ := HK.out
  clear HK mk
  generalize w1.alloc (.cells (List.replicate n (.int .i64 0)).toArray 3) = w2 at *
  generalize hP : w1.heap.size = P at *
  generalize hlen : l.length = ln at *
  have HLN := hide hlen
  clear hlen
  go_loopw [5] (fun i W => ∃ (k : Nat) (cs : List Value), i = .int .i64 k ∧ k ≤ n ∧ Below P w1 W ∧ W.heap[P]? = some (.cells cs.toArray 3 (0, 0)) ∧ cs.length = n ∧ ∀ x, x < k → cs[x]? = some (.int .i64 (-1))) (fun i _ => n - (intOf i).toNat)
  case atStart => exact ⟨0, _, rfl, Nat.zero_le _, hb2, kp, by simp, fun x hx => absurd hx (Nat.not_lt_zero _)⟩
  case round =>
    clear kp hb2
    obtain ⟨k, cs, rfl, hk, hB, kp, hcl, hcs⟩ := hrel
    by_cases hkl : k < n
    · have e1 : ((k : Int) < (n : Int)) = True := eq_true (by omega)
      have ck : wr.cell? ⟨P, k, none⟩ = some (cs.getD k (.int .i64 0)) := by
        rw [cell_of kp, List.getElem?_toArray, List.getD_eq_getElem?_getD, List.getElem?_eq_getElem (by omega)]; rfl
      have fk := frozen_of kp k
      have HKP := hide (heap_set_same kp k (.int .i64 (-1)))
      have HB := hide (hB.setCell (p := ⟨P, k, none⟩) (Nat.le_refl _) (.int .i64 (-1)))
      have HCS : Hid (∀ x, x < k + 1 → (cs.set k (.int .i64 (-1)))[x]? = some (.int .i64 (-1))) := fun x hx => by
        by_cases e : k = x
        · subst e; rw [List.getElem?_set_self (by omega)]
        · rw [List.getElem?_set_ne e]; exact hcs x (by omega)
      have HCL : Hid ((cs.set k (.int .i64 (-1))).length = n) := by rw [Hid, List.length_set]; exact hcl
      clear kp hB hcs hcl
      generalize cs.getD k (.int .i64 0) = old at *
      generalize cs.set k (.int .i64 (-1)) = cs2 at *
      have hkb : k ≤ 4096 := by omega
      go_wp2
      go_roundw
      case rel => exact ⟨k + 1, cs2, by go_num, by omega, HB.out, HKP.out, HCL.out, HCS.out⟩
      case measure => simp [intOf]; omega
    · have e1 : ((k : Int) < (n : Int)) = False := eq_false (by omega)
      obtain rfl : k = n := by omega
      rw [plm_nil k cs hcl hcs] at kp
      clear hcs hcl
      go_wp2
      go_loopw [6] (fun i W => ∃ j : Nat, i = .int .i64 j ∧ j ≤ ln ∧ Below P w1 W ∧ W.heap[P]? = some (.cells (plm k (l.take j)).toArray 3 (0, 0))) (fun i _ => ln - (intOf i).toNat)
      case atStart => exact ⟨0, rfl, Nat.zero_le _, hB, kp⟩
      case round =>
        clear kp hB
        obtain ⟨j, rfl, hj, hB, kp⟩ := hrel
        by_cases hjl : j < ln
        · have e2 : ((j : Int) < (ln : Int)) = True := eq_true (by omega)
          obtain ⟨rfl, hOB, c1, hx1, hx2, hx3⟩ := HOC.out j hjl
          have c2 : wr.cell? ⟨OB, OO + j, none⟩ = _ := (hB.cell (p := ⟨OB, OO + j, none⟩) hOB).trans c1
          have hset := plm_set k (l.take j) (l.getD j 0) hx2
          rw [← hx3, List.length_take, show min j l.length = j by have := HLN.out; omega] at hset
          have kp2 := heap_set_same kp (l.getD j 0) (.int .i64 (j : Int))
          rw [hset] at kp2
          have HKP := hide kp2
          have HB := hide (hB.setCell (p := ⟨P, l.getD j 0, none⟩) (Nat.le_refl _) (.int .i64 (j : Int)))
          have fk := frozen_of kp (l.getD j 0)
          have ck : wr.cell? ⟨P, l.getD j 0, none⟩ = some (.int .i64 (plI (l.take j) (l.getD j 0))) := by
            rw [cell_of kp, List.getElem?_toArray, plm_at _ _ _ hx1]
          clear kp hB c1 hx2 hx3 hset kp2
          generalize plI (l.take j) (l.getD j 0) = old at *
          generalize l.getD j 0 = x at *
          have hxi : ((x : Int) < (k : Int)) = True := eq_true (by omega)
          have hxb : x ≤ 4096 := by omega
          go_wp2
          go_roundw
          case rel => exact ⟨j + 1, by go_num, by omega, HB.out, HKP.out⟩
          case measure => simp [intOf]; omega
        · have e2 : ((j : Int) < (ln : Int)) = False := eq_false (by omega)
          rw [List.take_of_length_le (by have := HLN.out; omega)] at kp
          have HKP := hide kp
          clear kp
          go_wp2
          go_ret
          exact ⟨hb1.trans (hB.mono hs1), P, l, hs1, rfl, HKP.out, HX.out⟩
theorem rplaces_is (av : Option Addr) (cap blk off : Nat) (hd : Nat → Hdr) (g : List (List Nat)) (hgr : Right g) (hl : g.length ≤ 40) (w : World) (hG : GAt w av blk off hd (castG g)) :
    Calls Try.prog 37 #[.slice av g.length cap] w fun e w' => Below w.heap.size w w' ∧ ∃ P l, w.heap.size ≤ P ∧ e = .returned (.slice (some ⟨P, 0, none⟩) g.length g.length) ∧ w'.heap[P]? = some (.cells (plm g.length l).toArray 3 (0, 0)) ∧ ∃ m' o, l = o.reverse ∧ Walk g [0] (List.replicate g.length false) m' o :=
  places_of av g.length cap hl w (fun l => ∃ m' o, l = o.reverse ∧ Walk g [0] (List.replicate g.length false) m' o) ((rorder_is av cap blk off hd g hgr hl w hG).mono fun e w' ⟨h1, v, m', o, h2, h3, h4⟩ =>
    ⟨h1, v, o.reverse, h2, by rw [List.length_reverse]; exact h3, nodup_rev h4.nodup, fun x hx => by have := h4.lt x (List.mem_reverse.1 hx); simpa using this, m', o, rfl, h4⟩)
theorem rplaces_none (av : Option Addr) (cap blk off : Nat) (hd : Nat → Hdr) (g : List (List Int)) (hl : g.length ≤ 40) (hl2 : ∀ b, (g.getD b []).length ≤ 20) (hno : ¬ RightI g) (w : World) (hG : GAt w av blk off hd g) :
    Calls Try.prog 37 #[.slice av g.length cap] w fun e w' => Below w.heap.size w w' ∧ ∃ P l, w.heap.size ≤ P ∧ e = .returned (.slice (some ⟨P, 0, none⟩) g.length g.length) ∧ w'.heap[P]? = some (.cells (plm g.length l).toArray 3 (0, 0)) ∧ True :=
  places_of av g.length cap hl w (fun _ => True) ((rorder_none av cap blk off hd g hl hl2 hno w hG).mono fun e w' ⟨h1, h2⟩ => by
    subst h2
    exact ⟨Below.refl _ _, _, [], h1, World.ownsRow_nil _ _ _ _, List.nodup_nil, (fun x hx => by cases hx), trivial⟩)

set_option maxRecDepth 100000 in
set_option maxHeartbeats 2000000 in
/-- Is a pair among some? -/
theorem has_is (v : Value) (l : List (Nat × Nat)) (hl : l.length ≤ 1000000) (a b : Nat) (w : World) (h : PairN w v l) :
    Calls Try.prog 38 #[v, .int .i64 (a : Int), .int .i64 (b : Int)] w fun e w' => e = .returned (.bool (decide ((a, b) ∈ l))) ∧ w' = w := by
  obtain ⟨av, cap, blk, rfl, h1, h2⟩ := h
  have H1 := hide h1
  have H2 := hide h2
  have HM : Hid (∀ m, (∃ p, p < m ∧ l.getD p (0, 0) = (a, b)) → m ≤ l.length → (a, b) ∈ l) := fun m ⟨p, h1, h2⟩ hm => (memP_getD l (a, b)).2 ⟨p, by omega, h2⟩
  have HM2 : Hid ((a, b) ∈ l → ∃ p, p < l.length ∧ l.getD p (0, 0) = (a, b)) := fun h => (memP_getD l (a, b)).1 h
  clear h1 h2
  generalize hn : l.length = n at *
  clear hn
  go_enter Try.func38, Try.ntmps38
  go_wp2
  go_loopw [7] (fun i wr => w = wr ∧ ∃ k : Nat, i = .int .i64 k ∧ k ≤ n ∧ ¬ ∃ p, p < k ∧ l.getD p (0, 0) = (a, b)) (fun i _ => n - (intOf i).toNat)
  case atStart => exact ⟨rfl, 0, rfl, Nat.zero_le _, fun ⟨p, hp, _⟩ => absurd hp (Nat.not_lt_zero _)⟩
  case round =>
    obtain ⟨rfl, k, rfl, hk, hno⟩ := hrel
    have HNO := hide hno
    clear hno
    by_cases hkl : k < n
    · have e1 : ((k : Int) < (n : Int)) = True := eq_true (by omega)
      obtain ⟨rfl, hblk⟩ := H1.out (by omega)
      obtain ⟨c1, c2⟩ := H2.out k hkl
      have HSP : Hid ((∃ p, p < k + 1 ∧ l.getD p (0, 0) = (a, b)) ↔ (∃ p, p < k ∧ l.getD p (0, 0) = (a, b)) ∨ l.getD k (0, 0) = (a, b)) := ex_succP l k (a, b)
      generalize l.getD k (0, 0) = e at *
      obtain ⟨ea, eb⟩ := e
      simp only at c1 c2
      by_cases heq : ea = a ∧ eb = b
      · obtain ⟨rfl, rfl⟩ := heq
        have hee := eqlP_same (ea : Int) (eb : Int)
        have HF : Hid (decide ((ea, eb) ∈ l) = true) := by
          have := HM.out (k + 1) (HSP.out.2 (.inr rfl)) hkl
          rw [Hid]; simpa using this
        go_wp2
        go_ret
        exact ⟨by rw [HF.out]; rfl, rfl⟩
      · have hee := eqlP_diff (ea : Int) (eb : Int) (a : Int) (b : Int) (fun h => heq ⟨by omega, by omega⟩)
        have HR : Hid (¬ ∃ p, p < k + 1 ∧ l.getD p (0, 0) = (a, b)) := fun h => by
          rcases HSP.out.1 h with h | h
          · exact HNO.out h
          · injection h with h1 h2; exact heq ⟨h1, h2⟩
        clear heq
        go_wp2
        go_roundw
        case rel => exact ⟨trivial, k + 1, by go_num, by omega, HR.out⟩
        case measure => simp [intOf]; omega
    · have e1 : ((k : Int) < (n : Int)) = False := eq_false (by omega)
      obtain rfl : k = n := by omega
      have HF : Hid (decide ((a, b) ∈ l) = false) := by
        rw [Hid]; simpa using fun h => HNO.out (HM2.out h)
      go_wp2
      go_ret
      exact ⟨by rw [HF.out]; rfl, rfl⟩

end Go.Proofs.Ytchnjjdhffmkpaa
