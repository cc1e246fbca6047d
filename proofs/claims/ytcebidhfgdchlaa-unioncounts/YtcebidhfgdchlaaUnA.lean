/-
  Sets in memory (layer 8): contracts of top, add, Add.
-/
import Derived.Test.YtcebidhfgdchlaaUnW
namespace Go.Proofs.Ytcebidhfgdchlaa
open Go.ChangeShapes Go.WideShapes Go.ChangeAt Go.RowKit Go.Shelf Go.Maps

set_option maxRecDepth 100000 in
set_option maxHeartbeats 1000000 in
/-- The top of a thing's class. -/
theorem top_is (base X mb : Nat) (v : Value) (st : List Th) (i r : Nat) (hr : Top st i r) (hl : st.length ≤ 1000000) (w : World) (h : SAt w base X mb v st) : Calls Try.prog 23 #[.pointer (some ⟨X, 0, none⟩), .int .i64 (i : Int)] w fun e w' => e = .returned (.int .i64 (r : Int)) ∧ w' = w := by
  obtain ⟨TB, cap, rfl, _, _, _⟩ := h.cell hr.lt.1
  have c2 : w.cell? ⟨X, 2, none⟩ = some (.slice (some ⟨TB, 0, none⟩) st.length cap) := cell_of h.box 2
  have HC : Hid (∀ j, j < st.length → w.cell? ⟨TB, j * 5 + 1, none⟩ = some (.int .i64 ((at_ st j).above : Int))) := fun j hj => by
    obtain ⟨TB', cap', e, _, _, hc⟩ := h.cell hj
    injection e with e1
    injection e1 with e1
    injection e1 with e1
    subst e1
    exact hc 1 (by decide)
  have HU := hide h.uf
  clear h
  go_enter Try.func23, Try.ntmps23
  go_wp2
  go_loopw [1] (fun a W => ∃ j : Nat, a = .int .i64 (j : Int) ∧ W = w ∧ Top st j r) (fun a _ => st.length - (at_ st (Int.toNat (RowKit.intOf a))).size)
  case atStart => exact ⟨i, rfl, rfl, hr⟩
  case round =>
    clear hr
    obtain ⟨j, rfl, rfl, hr⟩ := hrel
    have hj := hr.lt.1
    have cj := HC.out j hj
    have hji : ((j : Int) < (st.length : Int)) = True := eq_true (by omega)
    have hjb : j ≤ 1000000 := by omega
    by_cases he : (at_ st j).above = j
    · have hrj : r = j := hr.det (.here hj he)
      have HR := hide hrj
      rw [he] at cj
      have e1 : ((j : Int) != (j : Int)) = false := by simp
      clear hrj hr he
      go_wp2
      go_ret
      exact ⟨by rw [HR.out]; rfl, rfl⟩
    · have hn : Top st (at_ st j).above r := by
        cases hr with
        | here _ h => exact absurd h he
        | up _ _ h => exact h
      have hs := (HU.out.up j hj).2.resolve_left he
      have hp := (HU.out.pos _ hn.lt.1).2
      have HN : Hid (Top st (at_ st j).above r ∧ (at_ st j).size < (at_ st (at_ st j).above).size ∧ (at_ st (at_ st j).above).size ≤ st.length) := ⟨hn, hs, hp⟩
      have e1 : (((at_ st j).above : Int) != (j : Int)) = true := bne_iff_ne.2 (by omega)
      have e1' : (((at_ st j).above : Int) = (j : Int)) = False := eq_false (by omega)
      clear hn hs hp hr he
      generalize hab : (at_ st j).above = ab at *
      clear hab
      go_wp2
      go_roundw
      case rel => exact ⟨ab, rfl, by first | rfl | trivial, HN.out.1⟩
      case measure =>
        have := HN.out
        show st.length - (at_ st ((ab : Nat) : Int).toNat).size < st.length - (at_ st ((j : Nat) : Int).toNat).size
        rw [Int.toNat_natCast, Int.toNat_natCast]
        omega

set_option maxRecDepth 100000 in
theorem typ56 : ∃ i, Try.prog.info? 56 = some i ∧ i.zero = some (.agg #[.int .i64 0, .int .i64 0, .int .i64 0, .int .i64 0, .int .i64 0]) ∧ i.bytes = 40 ∧ i.size = 5 := by
  refine ⟨_, rfl, ?_, ?_, ?_⟩ <;> kernel_rfl
/-- One thing more. -/
theorem app_th (w : World) (ty : TypeId) (base : Nat) (v : Value) (n : Nat) (xs : List Value) (hown : w.ownsRow base 56 5 v n xs) (x : Th) (hbd : n ≤ 10000000) (hbase : base ≤ w.heap.size) :
    ∃ g cap w', (Builtin.append_ #[47, 47] ty #[v, .slice (some ⟨w.heap.size, 0, none⟩) 1 1]).run Try.prog (w.alloc (.cells (tcells x).toArray 56)) = .ok (.slice (some ⟨g, 0, none⟩) (n + 1) cap) w' ∧ w'.ownsRow base 56 5 (.slice (some ⟨g, 0, none⟩) (n + 1) cap) (n + 1) (xs ++ tcells x) ∧ (w.alloc (.cells (tcells x).toArray 56)).grownBy w' v.ownBlock ∧ (v.ownBlock = some g ∨ g = w.heap.size + 1) ∧ g < w'.heap.size := by
  obtain ⟨i, h1, h2, h3, h4⟩ := typ56
  exact run_append_lies (P := Try.prog) (w.alloc (.cells (tcells x).toArray 56)) 47 ty base 56 i _ 5 40 Try.underlying47 h1 h2 h4 h3 rfl (by decide) v n xs (hown.alloc _) ⟨w.heap.size, 0, none⟩ 1 1 (tcells x) rfl
    (fun j u hu => by
      rw [Addr.add_mid, Nat.zero_add, cell_of (World.alloc_heap_new w _), List.getElem?_toArray]; exact hu)
    (fun u hu => by simp at hu; rcases hu with rfl | rfl | rfl | rfl | rfl <;> rfl) (by decide) (by unfold maxLen; omega) (by omega) (by simp; omega) _ (by simp)

theorem roots_le (st : List Th) : ∀ n, rootsTo st n ≤ n
  | 0 => Nat.le_refl _
  | n + 1 => by rw [rootsTo_succ]; have := roots_le st n; split <;> omega
theorem heap_set_same' {W : World} {H : Nat} {cs : Array Value} {T : TypeId} (h : W.heap[H]? = some (.cells cs T (0, 0))) (t : Nat) (v : Value) : (W.setCell ⟨H, t, none⟩ v).heap[H]? = some (.cells (cs.setIfInBounds t v) T (0, 0)) := by
  unfold World.setCell
  rw [Array.getElem?_modify, if_pos rfl, h]
  simp
/-- What is there now, of a key and of sets. -/
def Added (st : List Th) (k : Int) (st' : List Th) (i : Nat) (new : Bool) : Prop := UF st' ∧ i < st'.length ∧ (at_ st' i).key = k ∧ ((new = false ∧ st' = st) ∨ (new = true ∧ k ∉ st.map Th.key ∧ st' = lone st k))
set_option maxRecDepth 100000 in
set_option maxHeartbeats 2000000 in
theorem add_is (base X mb : Nat) (v : Value) (st : List Th) (k : Int) (hk : Fits k) (hl : st.length ≤ 100000) (w : World) (hbase : base ≤ w.heap.size) (G : Nat → Prop) (hGX : G X) (hGm : G mb) (hGv : ∀ b, v.ownBlock = some b → G b) (hGn : ∀ b, w.heap.size ≤ b → G b) (h : SAt w base X mb v st) :
    Calls Try.prog 22 #[.pointer (some ⟨X, 0, none⟩), .int .i64 k] w fun e w' => ∃ (st' : List Th) (i : Nat) (new : Bool) (v' : Value), e = .returned (.tuple #[.int .i64 (i : Int), .bool new]) ∧ Added st k st' i new ∧ SAt w' base X mb v' st' ∧ Turns G w w' ∧ ∀ b, v'.ownBlock = some b → G b := by
  have hp := place_is base X mb v st k hk w h
  have hn := isNaN_is k w
  by_cases hm : k ∈ st.map Th.key
  · have HP := hide hp
    have HF : Hid (∀ i, i < st.length → (at_ st i).key = k → Added st k st i false ∧ SAt w base X mb v st) := fun i hi e => ⟨⟨h.uf, hi, e, .inl ⟨rfl, rfl⟩⟩, h⟩
    have HGV := hide hGv
    clear hp hn h hGX hGm hGv hGn
    go_enter Try.func22, Try.ntmps22
    go_wp2_with fail
    refine HP.out.mono ?_
    rintro e w' ⟨rfl, ⟨i, hi, e, rfl⟩ | ⟨hno, _⟩⟩
    · have HI := hide (HF.out i hi e)
      clear hi e HP HF
      go_wp2
      go_ret2
      exact ⟨st, i, false, v, rfl, HI.out.1, HI.out.2, Turns.refl _ _, HGV.out⟩
    · exact absurd hm hno
  · obtain ⟨W1, hU, hg1, hM1⟩ := h.map.add k hk hm (by omega)
    have hXm : X ≠ mb := fun e => h.map.nocells _ _ _ (e ▸ h.box)
    have hXv : ∀ b, v.ownBlock = some b → b ≠ X := fun b hb e => by
      subst e
      rcases h.row.2 with ⟨e1, _⟩ | ⟨g, cp, cur, e1, _, e2, _⟩
      · subst e1; cases hb
      · subst e1
        have : g = b := by simpa [Value.ownBlock] using hb
        subst this
        rw [h.box] at e2
        injection e2 with e2
        injection e2 with _ e2
        cases e2
    have hvm : ∀ b, v.ownBlock = some b → b ≠ mb := fun b hb e => by
      subst e
      rcases h.row.2 with ⟨e1, _⟩ | ⟨g, cp, cur, e1, _, e2, _⟩
      · subst e1; cases hb
      · subst e1
        have : g = b := by simpa [Value.ownBlock] using hb
        subst this
        exact h.map.nocells _ _ _ e2
    have hT1 : Turns (fun b => b = mb) w W1 := ⟨hg1.os, hg1.tape, hg1.output, hg1.size, fun b hb hn => hg1.block b hb (fun e => hn (by cases e; rfl))⟩
    have hs1 := hT1.size
    have hrow1 := owns_turns h.row hT1 (fun b hb e => hvm b hb e)
    have hbox1 := (hT1.block X (lt_of h.box) hXm).trans h.box
    obtain ⟨g, cap, W2, hap, hrow2, hg2, hat2, hgl2⟩ := app_th W1 47 base v st.length _ hrow1 ⟨k, st.length, st.length, 1, k⟩ (by omega) (by omega)
    have hk2 : ∀ b, b < W1.heap.size → v.ownBlock ≠ some b → W2.heap[b]? = W1.heap[b]? := fun b hb hn => (hg2.block b (by simp; omega) (fun e => hn e.symm)).trans (Below.heap_alloc _ _ _ hb)
    have hXl1 : X < W1.heap.size := lt_of hbox1
    have hbox2 : W2.heap[X]? = some (.cells #[.map (some mb), .int .i64 (-1), v, .int .i64 (roots st : Int)] 49 (0, 0)) := (hk2 X hXl1 (fun e => hXv X e rfl)).trans hbox1
    have hM2 : PlMap W2 mb (lone st k) := hM1.on (hk2 mb hM1.lt (fun e => hvm mb e rfl))
    have hgX : g ≠ X := fun e => by
      rcases hat2 with h' | h'
      · exact hXv g h' e
      · omega
    obtain ⟨va, vc, hve, -⟩ := owns_shape h.row
    have hA : Added st k (lone st k) st.length true := ⟨h.uf.add k hm, by simp [lone], by rw [lone_new], .inr ⟨rfl, hm, rfl⟩⟩
    have hb3 := heap_set_same' hbox2 2 (.slice (some ⟨g, 0, none⟩) (st.length + 1) cap)
    have hb4 := heap_set_same' hb3 3 (.int .i64 ((roots st : Int) + 1))
    have hT2 : Turns G W1 W2 := ⟨hg2.os, hg2.tape, hg2.output, by have := hg2.size; rw [World.size_alloc] at this; omega, fun b hb hn => hk2 b hb (fun e => hn (hGv b e))⟩
    have hTs : Turns (fun b => b = X) W2 ((W2.setCell ⟨X, 2, none⟩ (.slice (some ⟨g, 0, none⟩) (st.length + 1) cap)).setCell ⟨X, 3, none⟩ (.int .i64 ((roots st : Int) + 1))) := (Turns.setCell (Q := fun b => b = X) _ ⟨X, 2, none⟩ _ rfl).trans (Turns.setCell (Q := fun b => b = X) _ ⟨X, 3, none⟩ _ rfl)
    have HT : Hid (Turns G w ((W2.setCell ⟨X, 2, none⟩ (.slice (some ⟨g, 0, none⟩) (st.length + 1) cap)).setCell ⟨X, 3, none⟩ (.int .i64 ((roots st : Int) + 1)))) := ((hT1.mono fun b hb => by rw [hb]; exact hGm).trans hT2).trans (hTs.mono fun b hb => by rw [hb]; exact hGX)
    have HN : Hid (∀ b, (Value.slice (some ⟨g, 0, none⟩) (st.length + 1) cap).ownBlock = some b → G b) := fun b hb => by
      have e : g = b := by simpa [Value.ownBlock] using hb
      rw [← e]
      rcases hat2 with h' | h'
      · exact hGv g h'
      · exact hGn g (by omega)
    have HS : Hid (SAt ((W2.setCell ⟨X, 2, none⟩ (.slice (some ⟨g, 0, none⟩) (st.length + 1) cap)).setCell ⟨X, 3, none⟩ (.int .i64 ((roots st : Int) + 1))) base X mb (.slice (some ⟨g, 0, none⟩) (st.length + 1) cap) (lone st k)) := by
      refine ⟨?_, ?_, hM2.on (hTs.block mb hM2.lt (fun e => hXm e.symm)), hA.1, h.bX, h.bm⟩
      · rw [hb4, roots_lone]; simp
      · have := owns_turns hrow2 hTs (fun b hb e => hgX (by
          have : g = b := by simpa [Value.ownBlock] using hb
          rw [this]; exact e))
        rw [List.length_append, List.flatMap_append]
        simpa using this
    have HAP : Hid ((Builtin.append_ #[47, 47] 47 #[v, .slice (some ⟨W1.heap.size, 0, none⟩) 1 1]).run Try.prog (W1.alloc (.cells #[.int .i64 k, .int .i64 (st.length : Int), .int .i64 (st.length : Int), .int .i64 1, .int .i64 k] 56)) = .ok (.slice (some ⟨g, 0, none⟩) (st.length + 1) cap) W2) := hap
    have HA := hide hA
    subst hve
    have c0 : w.cell? ⟨X, 0, none⟩ = some (.map (some mb)) := cell_of h.box 0
    have c2 : w.cell? ⟨X, 2, none⟩ = some (.slice va st.length vc) := cell_of h.box 2
    have d2 : W1.cell? ⟨X, 2, none⟩ = some (.slice va st.length vc) := cell_of hbox1 2
    have f2 := frozen_of hbox2 2
    have x2 : W2.cell? ⟨X, 2, none⟩ = some (.slice va st.length vc) := cell_of hbox2 2
    have f3 := frozen_of hb3 3
    have x3 : (W2.setCell ⟨X, 2, none⟩ (.slice (some ⟨g, 0, none⟩) (st.length + 1) cap)).cell? ⟨X, 3, none⟩ = some (.int .i64 (roots st : Int)) := cell_of hb3 3
    have hroots : roots st ≤ 1000000 := Nat.le_trans (roots_le st st.length) (by omega)
    have HP := hide hp
    clear hp h hap hA hb3 hb4 hT2 hTs hbox1 hbox2 hM1 hM2 hg1 hg2 hk2 hrow1 hrow2 hT1 hat2 hXv hvm hGX hGm hGv hGn
    generalize roots st = rn at *
    generalize hsl : st.length = n at *
    have HSL := hide hsl
    clear hsl
    go_enter Try.func22, Try.ntmps22
    go_wp2_with fail
    refine HP.out.mono ?_
    clear HP
    rintro e w' ⟨rfl, ⟨i, hi, e, rfl⟩ | ⟨hno, rfl⟩⟩
    · exact absurd (key_mem.2 ⟨i, by rw [HSL.out]; exact hi, e⟩) hm
    · clear hno
      go_wp2_with fail
      refine hn.mono ?_
      rintro e w' ⟨rfl, rfl⟩
      clear hn
      go_wp2_with (at_builtin; refine wpList_append_run rfl _ _ 47 rfl rfl rfl HAP.out ?_)
      go_ret2
      exact ⟨lone st k, n, true, _, rfl, HA.out, HS.out, HT.out, HN.out⟩

end Go.Proofs.Ytcebidhfgdchlaa
