/-
  Frontier (layer 7): the contract of dom's own, of a right graph.
-/
import Derived.Test.YtonoeodlchkiaaaFrt
import Derived.Test.YtonoeodlchkiaaaKey
namespace Go.Proofs.Ytonoeodlchkiaaa
open Go.ChangeShapes Go.WideShapes Go.ChangeAt Go.RowKit Go.Shelf Go.Maps

attribute [local go_sem] Oper.semAt_some

/-- Another row is laid in. -/
theorem rowsB_put {W : World} {base H n : Nat} {f : Nat → List Nat} (h : RowsB W base H n f) (t : Nat) (ht : t < n) (hH : H < base) (v : Value) (xs : List Nat) (hv : W.ownsRow base 3 1 v xs.length (intsV xs)) (hne : ∀ b, v.ownBlock = some b → ∀ (s : Nat) (u : Value), s ≠ t → W.cell? ⟨H, s, none⟩ = some u → u.ownBlock ≠ some b) :
    RowsB (W.setCell ⟨H, t, none⟩ v) base H n (fun s => if s = t then xs else f s) := by
  obtain ⟨vs, h1, h2, h3, h4⟩ := h
  have hT : Turns (fun b => b = H) W (W.setCell ⟨H, t, none⟩ v) := Turns.setCell W ⟨H, t, none⟩ v rfl
  refine ⟨vs.set t v, by simpa using h1, heap_set_same h2 t _, fun s hs => ?_, fun s r p q b hp hq hpb hqb => ?_⟩
  · by_cases e : s = t
    · subst e
      refine ⟨v, List.getElem?_set_self (by omega), ?_⟩
      simp only [↓reduceIte]
      exact owns_turns hv hT (fun b hb e => by have := (hv.lt b hb).1; omega)
    · obtain ⟨u, hu, hou⟩ := h3 s hs
      refine ⟨u, by rw [List.getElem?_set_ne (fun e' => e e'.symm)]; exact hu, ?_⟩
      simp only [if_neg e]
      exact owns_turns hou hT (fun b hb e => by have := (hou.lt b hb).1; omega)
  · have cl : ∀ (s : Nat) (p : Value), s ≠ t → (vs.set t v)[s]? = some p → vs[s]? = some p ∧ W.cell? ⟨H, s, none⟩ = some p := fun s p e hp => by
      rw [List.getElem?_set_ne (fun e' => e e'.symm)] at hp
      exact ⟨hp, by rw [cell_of h2]; simpa using hp⟩
    by_cases e1 : s = t
    · by_cases e2 : r = t
      · rw [e1, e2]
      · subst e1
        rw [List.getElem?_set_self (by omega)] at hp
        cases hp
        exact absurd hqb (hne b hpb r q e2 (cl r q e2 hq).2)
    · by_cases e2 : r = t
      · subst e2
        rw [List.getElem?_set_self (by omega)] at hq
        cases hq
        exact absurd hpb (hne b hqb s p e1 (cl s p e1 hp).2)
      · exact h4 s r p q b (cl s p e1 hp).1 (cl r q e2 hq).1 hpb hqb
theorem RowsB.cell' {W : World} {base H n : Nat} {f : Nat → List Nat} (h : RowsB W base H n f) (s : Nat) (u : Value) (hu : W.cell? ⟨H, s, none⟩ = some u) : s < n ∧ W.ownsRow base 3 1 u (f s).length (intsV (f s)) := by
  obtain ⟨vs, h1, h2, h3, h4⟩ := h
  rw [cell_of h2] at hu
  have hs : s < n := by
    rw [← h1]
    have := (Array.getElem?_eq_some_iff.1 hu).1
    simpa using this
  obtain ⟨v, hv, ho⟩ := h3 s hs
  rw [List.getElem?_toArray, hv] at hu
  cases hu
  exact ⟨hs, ho⟩
theorem RowsB.frozen {W : World} {base H n : Nat} {f : Nat → List Nat} (h : RowsB W base H n f) (s : Nat) : W.frozen? ⟨H, s, none⟩ = false := by
  obtain ⟨vs, h1, h2, h3, h4⟩ := h
  exact frozen_of h2 s

/-- What the frontiers of a graph are. -/
def IsFro (g : List (List Nat)) (o : List Nat) (d : List Int) (f : Nat → List Nat) : Prop := ∀ a, a < g.length → (f a).Pairwise (· < ·) ∧ ∀ t, t ∈ f a ↔ ∃ x ∈ o, t ∈ g.getD x [] ∧ Fr d x t a

set_option maxRecDepth 100000 in
set_option maxHeartbeats 4000000 in
theorem frontier_is (av : Option Addr) (cap blk off : Nat) (hd : Nat → Hdr) (g : List (List Nat)) (hgr : Right g) (w : World) (hG : GAt w av blk off hd (castG g)) :
    Calls Try.prog 22 #[.slice av g.length cap] w fun e w' => Below w.heap.size w w' ∧ ∃ RB base d m' o f, w.heap.size ≤ RB ∧ RB < base ∧ base ≤ w'.heap.size ∧ e = .returned (.slice (some ⟨RB, 0, none⟩) g.length g.length) ∧ Walk g [0] (List.replicate g.length false) m' o ∧ Fin g o d ∧
      RowsB w' base RB g.length f ∧ IsFro g o d f := by
  have hone := hgr.one
  have hmost := hgr.most
  have hr := right_any av cap blk off hd (castG g) w hG
  rw [castG_len, rightB_true.2 hgr.toI] at hr
  have HG := hide hG
  clear hG
  go_enter Try.func22, Try.ntmps22
  go_wp2_with fail
  refine hr.mono ?_
  rintro e w1 ⟨rfl, hb1⟩
  clear hr
  have mk := make_rows g.length (by omega)
  have hRB0 := rowsB_new w1 g.length
  have hb2 : Below w1.heap.size w1 (w1.alloc (.cells (List.replicate g.length (.slice none 0 0)).toArray 25)) := bel_new _ _
  have hs2 : (w1.alloc (.cells (List.replicate g.length (.slice none 0 0)).toArray 25)).heap.size = w1.heap.size + 1 := World.size_alloc _ _
  have HK := hide (And.intro hRB0 (And.intro hb2 hs2))
  clear hRB0 hb2 hs2
  go_wp2_with fail
  rw [← List.toArray_replicate]
  obtain ⟨hRB0, hb2, hs2⟩ := HK.out
  clear HK mk
  generalize w1.alloc (.cells (List.replicate g.length (.slice none 0 0)).toArray 25) = w2 at *
  have hb02 := bel_two hb1 hb2
  have HF := hide (frontiers_is av cap blk off hd g hgr w2 (HG.out.below hb02))
  refine HF.out.mono ?_
  clear HF
  rintro e w3 ⟨hb3, SB, d, m', o, f, hSB, rfl, hwk, hfin, hsets, hspec⟩
  have hs1 := hb1.size
  have hs3 := hb3.size
  have hSl : SB < w3.heap.size := by obtain ⟨ms, _, h2, _⟩ := hsets; exact lt_of h2
  have hbw3 := bel_two hb02 hb3
  have HSETS : Hid (∀ W, Turns (fun b => b = w1.heap.size ∨ w3.heap.size ≤ b) w3 W → Sets W (fun b => w2.heap.size ≤ b ∧ b < w3.heap.size) SB g.length f) := fun W ht => (hsets.mono (A' := fun b => w2.heap.size ≤ b ∧ b < w3.heap.size) (fun b hb hl => ⟨hb, hl⟩)).turns ht (by omega) (fun b hb _ => by omega)
  have HR0 : Hid (RowsB w3 w3.heap.size w1.heap.size g.length (fun t => if t < 0 then risen (f t) else [])) := by
    obtain ⟨vs, h1, h2, h3, h4⟩ := (hRB0 w3.heap.size).turns (Turns.of_below hb3) (fun b hb hl hq => by rcases hb with hb | hb <;> omega)
    exact ⟨vs, h1, h2, fun t ht => by simpa using h3 t ht, h4⟩
  have HS := hide hspec
  have HWK := hide hwk
  have HFIN := hide hfin
  clear hRB0 hb1 hb2 hb3 hb02 hsets hspec hwk hfin
  generalize hRB : w1.heap.size = RB at *
  clear hRB
  go_wp2
  go_loopw [15] (fun i W => ∃ k : Nat, i = .int .i64 k ∧ k ≤ g.length ∧ Turns (fun b => b = RB ∨ w3.heap.size ≤ b) w3 W ∧ RowsB W w3.heap.size RB g.length (fun t => if t < k then risen (f t) else [])) (fun i _ => g.length - (intOf i).toNat)
  case atStart => exact ⟨0, rfl, Nat.zero_le _, Turns.refl _ _, HR0.out⟩
  case round =>
    clear HR0
    obtain ⟨k, rfl, hk, hT, hR⟩ := hrel
    have hsT := hT.size
    by_cases hkl : k < g.length
    · have e1 : ((k : Int) < (g.length : Int)) = True := eq_true (by omega)
      have hkb : k ≤ 4096 := by omega
      have hST := HSETS.out wr hT
      obtain ⟨m, hcm, HSO⟩ : ∃ m, wr.cell? ⟨SB, k, none⟩ = some (.map m) ∧ Hid (Calls Try.prog 39 #[.func (.func 54) #[] #[.pointer (some ⟨wr.heap.size, 0, none⟩)]] (wr.alloc (.cells #[.map m] 51)) fun e w' => ∃ v : Value, e = .returned v ∧
          w'.ownsRow (wr.heap.size + 1) 3 1 v (risen (f k)).length (intsV (risen (f k))) ∧ Below (wr.heap.size + 1) (wr.alloc (.cells #[.map m] 51)) w') := by
        rcases hST.cell k hkl with ⟨h1, h2⟩ | ⟨b, h1, _, h2⟩
        · exact ⟨none, h1, by rw [h2, show risen [] = [] from by simp [risen]]; exact sorted_none wr⟩
        · exact ⟨some b, h1, sorted_any b (f k) wr h2⟩
      have HKO := hide (keysOf_any m wr)
      have HR := hide hR
      clear hST hR
      go_wp2_with fail
      refine HKO.out.mono ?_
      clear HKO
      rintro e w' ⟨rfl, rfl⟩
      go_wp2_with fail
      refine HSO.out.mono ?_
      clear HSO
      rintro e w5 ⟨v, rfl, hov, hb5⟩
      have hb5' : Below wr.heap.size wr w5 := (bel_new wr _).trans (hb5.mono (by omega))
      have hR5 := HR.out.turns (Turns.of_below hb5') (fun b hb hl hq => by rcases hb with hb | hb <;> omega)
      have hs5 := hb5'.size
      have hov2 : w5.ownsRow w3.heap.size 3 1 v (risen (f k)).length (intsV (risen (f k))) := owns_mono hov (by omega)
      have hRBl : RB < w3.heap.size := by omega
      have hput := rowsB_put hR5 k hkl hRBl v (risen (f k)) hov2 (fun b hb s u hs hu e => by
        have hu' : wr.cell? ⟨RB, s, none⟩ = some u := (hb5'.cell (p := ⟨RB, s, none⟩) (by show RB < wr.heap.size; omega)).symm.trans hu
        have h6 := (((HR.out.cell' s u hu').2).lt b e).2
        have h7 := (hov.lt b hb).1
        omega)
      obtain ⟨a0, c0, cR⟩ := hR5.cell k hkl
      have fR := hR5.frozen k
      have HPUT : Hid (RowsB (w5.setCell ⟨RB, k, none⟩ v) w3.heap.size RB g.length (fun t => if t < k + 1 then risen (f t) else [])) := hput.congr (fun t ht => by
        by_cases e : t = k
        · subst e; simp
        · have : (t < k + 1) = (t < k) := by simp; omega
          simp only [if_neg e, this])
      have HT5 : Hid (Turns (fun b => b = RB ∨ w3.heap.size ≤ b) w3 (w5.setCell ⟨RB, k, none⟩ v)) := (hT.trans ((Turns.of_below hb5').mono fun b hb => .inr (by omega))).trans (Turns.setCell w5 ⟨RB, k, none⟩ v (.inl rfl))
      obtain ⟨va, vc, hve, -⟩ := owns_shape hov
      clear hput hov hov2 hb5 hb5' hR5
      generalize (risen (f k)).length = rl at *
      subst hve
      go_wp2
      go_roundw
      case rel => exact ⟨k + 1, by go_num, by omega, HT5.out, HPUT.out⟩
      case measure => simp [intOf]; omega
    · have e1 : ((k : Int) < (g.length : Int)) = False := eq_false (by omega)
      have hbW : Below w.heap.size w wr := hT.below hbw3 hbw3.size (fun b hb hq => by omega)
      have HR := hide hR
      clear hR
      go_wp2
      go_ret
      refine ⟨hbW, RB, w3.heap.size, d, m', o, (fun t => if t < k then risen (f t) else []), by omega, by omega, hsT, rfl, HWK.out, HFIN.out, HR.out, fun a ha => ?_⟩
      have hak : a < k := by omega
      simp only [hak, ↓reduceIte]
      have hnd : (f a).Nodup := by
        rcases (HSETS.out wr hT).cell a ha with ⟨_, h2⟩ | ⟨b, _, _, D, _, _, _, h2, _⟩
        · rw [h2]; exact List.nodup_nil
        · exact h2
      exact ⟨risen_lt hnd, fun t => (risen_mem (f a) t).trans (HS.out a t ha)⟩
end Go.Proofs.Ytonoeodlchkiaaa
