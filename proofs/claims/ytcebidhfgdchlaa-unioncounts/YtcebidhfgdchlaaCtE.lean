/-
  All (layer 8): the iterator over all classes.
-/
import Derived.Test.YtcebidhfgdchlaaCtD
namespace Go.Proofs.Ytcebidhfgdchlaa
open Go.ChangeShapes Go.WideShapes Go.ChangeAt Go.RowKit Go.Shelf Go.Maps

attribute [local go_sem] Oper.semAt_some

theorem all_in (n X : Nat) (w : World) : CallsIn Fence.wide n Try.prog 30 #[.pointer (some ⟨X, 0, none⟩)] w fun e w' => e = .returned (.func (.func 37) #[] #[.pointer (some ⟨w.heap.size, 0, none⟩)]) ∧
    w'.heap.size = w.heap.size + 1 ∧ Below w.heap.size w w' ∧ w'.heap[w.heap.size]? = some (.cells #[.pointer (some ⟨X, 0, none⟩)] 24 (0, 0)) := by
  refine callsIn_of_wp Try.func30 rfl trivial ?_ rfl
  simp only [Try.ntmps30, List.size_toArray, List.length_cons, List.length_nil, Nat.reduceAdd, Nat.reduceSub, Array.replicate_succ, Array.replicate_zero, List.push_toArray, List.append_toArray, List.nil_append, List.cons_append]
  gi_wp2
  go_ret
  exact ⟨rfl, by simp, (Below.refl _ w).alloc (Nat.le_refl _) _, World.alloc_heap_new w _⟩

set_option maxRecDepth 100000 in
set_option maxHeartbeats 2000000 in
/-- Over all classes. The rows are made at the beginning; from then on the iterator turns nothing. -/
theorem all_gives (base X mb : Nat) (v : Value) (st : List Th) (hl : st.length ≤ 100000) (Bx : Nat) (W1 : World) (hS : SAt W1 base X mb v st) (hBx : W1.heap[Bx]? = some (.cells #[.pointer (some ⟨X, 0, none⟩)] 24 (0, 0))) (L : Nat)
    (J : Nat → List (List Int) → Nat → World → Prop) (Jx : World → Prop)
    (h0 : ∀ W2 yss xss, Below W1.heap.size W1 W2 → Cls st st.length xss → yss.Perm xss → J W2.heap.size yss 0 W2)
    (hY : ∀ z yss k v W, J z yss k W → W1.heap.size ≤ z → k < yss.length → yss.length ≤ 100000 → W.ownsRow W1.heap.size 3 1 v (yss.getD k []).length (intsI (yss.getD k [])) → 0 < (yss.getD k []).length → (∀ b, v.ownBlock = some b → b < z) →
      YieldAt Fence.wide 0 Try.prog L #[.int .i64 ((yss.getD k []).getD 0 0), v] W fun e W' => (e = .returned (.bool true) ∧ J z yss (k + 1) W' ∧ Turns (fun b => v.ownBlock = some b ∨ b < W1.heap.size ∨ z ≤ b) W W') ∨ (e = .returned (.bool false) ∧ Jx W')) :
    CallsIn Fence.wide 0 Try.prog 37 #[.func (.yield L) #[] #[], .pointer (some ⟨Bx, 0, none⟩)] W1 fun e W' => (∃ v, e = .returned v) ∧ ((∃ z yss, J z yss yss.length W') ∨ Jx W') := by
  have HY := hide hY
  have H0 := hide h0
  have c0 : W1.cell? ⟨Bx, 0, none⟩ = some (.pointer (some ⟨X, 0, none⟩)) := cell_of hBx 0
  have HRW := hide (rows_is base X mb v st hl W1 hS)
  clear hY h0 hS hBx
  refine callsIn_of_wp Try.func37 rfl trivial ?_ rfl
  simp only [Try.ntmps37, List.size_toArray, List.length_cons, List.length_nil, Nat.reduceAdd, Nat.reduceSub, Array.replicate_succ, Array.replicate_zero, List.push_toArray, List.append_toArray, List.nil_append, List.cons_append]
  gi_wp2
  refine ⟨by trivial, by trivial, (callsIn_wide.2 HRW.out).mono ?_⟩
  rintro e W2 ⟨v2, yss, xss, rfl, hC, hp, hR, hb⟩
  obtain ⟨vs, g1, g2, g3⟩ := hR
  obtain ⟨av, cap, rfl, -⟩ := owns_shape g1
  have hJ0 := hide (H0.out W2 yss xss hb hC hp)
  have hlen : yss.length ≤ 100000 := by rw [hp.length_eq, hC.len]; exact Nat.le_trans (rootsTo_le _ _) hl
  have hz := hb.size
  have HPOS : Hid (∀ i, i < yss.length → 0 < (yss.getD i []).length) := fun i hi => by
    have hm : yss.getD i [] ∈ xss := by
      rw [List.getD_eq_getElem?_getD, List.getElem?_eq_getElem hi]
      exact hp.mem_iff.1 (List.getElem_mem hi)
    obtain ⟨j, hj, he⟩ := List.mem_iff_getElem.1 hm
    have := hC.pos (Nat.le_refl _) j hj
    rw [List.getD_eq_getElem?_getD, List.getElem?_eq_getElem hj, Option.getD_some, he] at this
    exact this
  have HG : Hid (∀ i, i < yss.length → ∃ gb, av = some ⟨gb, 0, none⟩ ∧ W1.heap.size ≤ gb ∧ gb < W2.heap.size ∧ W2.cell? ⟨gb, i, none⟩ = vs[i]?) := fun i hi => by
    obtain ⟨gb, c, e, a1, a2⟩ := g1.form (by omega)
    injection e with e1
    exact ⟨gb, e1, a1, a2, by subst e1; exact (by simpa using g1.cellAt i (by omega))⟩
  have HNE : Hid (∀ (i : Nat) (u : Value) (b gb : Nat), i < yss.length → vs[i]? = some u → u.ownBlock = some b → av = some ⟨gb, 0, none⟩ → b ≠ gb) := fun i u b gb hi hu hb2 hav e => by
    subst e hav
    obtain ⟨u2, hu2, ho⟩ := g2 i hi
    rw [hu] at hu2
    injection hu2 with hu2
    subst hu2
    rcases g1.2 with ⟨e, _⟩ | ⟨g4, c4, cur4, e, _, k1, _⟩
    · cases e
    · rcases ho.2 with ⟨e5, _⟩ | ⟨g5, c5, cur5, e5, _, k2, _⟩
      · subst e5; cases hb2
      · subst e5
        have : g5 = b := by simpa [Value.ownBlock] using hb2
        subst this
        cases e
        rw [k1] at k2
        injection k2 with k2
        injection k2 with k2 k3
        exact absurd k3 (by decide)
  have HG2 := hide g2
  have HG3 := hide g3
  have HLT : Hid (∀ (i : Nat) (u : Value) (b : Nat), i < yss.length → vs[i]? = some u → u.ownBlock = some b → W1.heap.size ≤ b ∧ b < W2.heap.size) := fun i u b hi hu hb2 => by
    obtain ⟨u2, hu2, ho⟩ := g2 i hi
    rw [hu] at hu2
    injection hu2 with hu2
    subst hu2
    exact ho.lt b hb2
  have hvl : vs.length = yss.length := by have := g1.1; omega
  have HVL := hide hvl
  generalize hm : yss.length = m at *
  have HM := hide hm
  clear hC hp hb g1 g2 g3 hvl hm c0 H0 HRW
  gi_wp2
  gi_loopw [8] (fun a wr => ∃ k : Nat, a = .int .i64 (k : Int) ∧ k ≤ m ∧ J W2.heap.size yss k wr ∧ W2.heap.size ≤ wr.heap.size ∧ (∀ gb, av = some ⟨gb, 0, none⟩ → gb < W2.heap.size → wr.heap[gb]? = W2.heap[gb]?) ∧ ∀ (i : Nat) (u : Value), k ≤ i → i < m → vs[i]? = some u → wr.ownsRow W1.heap.size 3 1 u (yss.getD i []).length (intsI (yss.getD i []))) (fun a _ => m - (RowKit.intOf a).toNat)
  case atStart => exact ⟨0, rfl, Nat.zero_le _, hJ0.out, Nat.le_refl _, fun _ _ _ => rfl, fun i u _ hi hu => by
    obtain ⟨u2, hu2, ho⟩ := HG2.out i hi
    rw [hu] at hu2
    injection hu2 with hu2
    subst hu2
    exact ho⟩
  case round =>
    clear hJ0
    obtain ⟨k, rfl, hk, hJ, hsz, hgb, hrest⟩ := hrel
    by_cases hlt : k < m
    · have e1 : ((k : Int) < (m : Int)) = True := eq_true (by omega)
      obtain ⟨gb, rfl, a1, a2, a3⟩ := HG.out k hlt
      obtain ⟨u, hu, -⟩ := HG2.out k hlt
      have ho := hrest k u (Nat.le_refl _) hlt hu
      have hpos := HPOS.out k hlt
      have hub := HLT.out k u
      have hyy := HY.out _ _ k u wr hJ hz (by rw [HM.out]; exact hlt) (by rw [HM.out]; exact hlen) ho hpos (fun b hb => (hub b hlt hu hb).2)
      have HKEEP : Hid (∀ W3, Turns (fun b => u.ownBlock = some b ∨ b < W1.heap.size ∨ W2.heap.size ≤ b) wr W3 → W2.heap.size ≤ W3.heap.size ∧ (∀ gb', some (⟨gb, 0, none⟩ : Addr) = some ⟨gb', 0, none⟩ → gb' < W2.heap.size → W3.heap[gb']? = W2.heap[gb']?) ∧ ∀ (i : Nat) (u : Value), k + 1 ≤ i → i < m → vs[i]? = some u → W3.ownsRow W1.heap.size 3 1 u (yss.getD i []).length (intsI (yss.getD i []))) := fun W3 hT => by
        refine ⟨Nat.le_trans hsz hT.size, fun gb' e hl2 => ?_, fun i u2 hi hi2 hu2 => ?_⟩
        · injection e with e
          injection e with e
          subst e
          refine (hT.block gb (by omega) ?_).trans (hgb gb rfl hl2)
          rintro (h | h | h)
          · exact HNE.out k u gb gb hlt hu h rfl rfl
          · omega
          · omega
        · refine owns_turns (hrest i u2 (by omega) hi2 hu2) hT (fun b hb => ?_)
          have := HLT.out i u2 b hi2 hu2 hb
          rintro (h | h | h)
          · exact HG3.out k i u u2 (by omega) hu hu2 b h hb
          · omega
          · omega
      obtain ⟨ub, uc, rfl, b1, b2⟩ := ho.form (by omega)
      have x2 := ho.cellAt 0 (by simpa using hpos)
      have x1 : wr.cell? ⟨gb, k, none⟩ = some (.slice (some ⟨ub, 0, none⟩) (yss.getD k []).length uc) := by
        simp only [World.cell?, hgb gb rfl a2]
        simp only [World.cell?] at a3
        exact a3.trans hu
      have x2' : wr.cell? ⟨ub, 0, none⟩ = some (.int .i64 ((yss.getD k []).getD 0 0)) := by
        clear hyy HKEEP ho hub
        generalize yss.getD k [] = l at x2 hpos ⊢
        refine x2.trans ?_
        rw [List.getElem?_map, List.getD_eq_getElem?_getD, List.getElem?_eq_getElem hpos]
        rfl
      clear x2 hub ho hrest hgb hJ hu a3
      have hpi : (0 : Int) < ((yss.getD k []).length : Int) := by omega
      have hkb : k ≤ 100000 := by omega
      generalize (yss.getD k []).getD 0 0 = x0 at *
      generalize (yss.getD k []).length = ln at *
      obtain ⟨fn, tmps, assign, body, hy, hR⟩ := hyy
      gi_wp2
      refine ⟨rfl, hR.mono ?_⟩
      rintro e W3 (⟨rfl, hJ3, hT3⟩ | ⟨rfl, hJx3⟩)
      · have HK := hide (HKEEP.out W3 hT3)
        have HJ3 := hide hJ3
        clear hJ3 hT3 hR hy
        gi_wp2
        refine ⟨⟨k + 1, by go_num, by omega, HJ3.out, HK.out.1, HK.out.2.1, HK.out.2.2⟩, ?_⟩
        simp [RowKit.intOf]; omega
      · gi_wp2
        refine bodyPost_ret (results_none rfl _ _ _) rfl ?_
        exact ⟨⟨_, rfl⟩, .inr hJx3⟩
    · have e1 : ((k : Int) < (m : Int)) = False := eq_false (by omega)
      have hkm : k = m := by omega
      have HJ3 := hide hJ
      have HKM := hide hkm
      clear hrest hgb hJ hkm
      gi_wp2
      go_end0
      exact ⟨⟨_, rfl⟩, .inl ⟨_, yss, by rw [HM.out, ← HKM.out]; exact HJ3.out⟩⟩
theorem enter37 (args : Array Value) (w : World) : (callFunc 37 args).run Try.prog w = .ok (.enter 37 args) w := by simp [go_sem]

end Go.Proofs.Ytcebidhfgdchlaa
