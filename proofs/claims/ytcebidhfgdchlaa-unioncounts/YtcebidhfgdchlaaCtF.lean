/-
  A range over All (layer 8), all of whose rounds end as they should.
-/
import Derived.Test.YtcebidhfgdchlaaCtE
namespace Go.Proofs.Ytcebidhfgdchlaa
open Go.ChangeShapes Go.WideShapes Go.ChangeAt Go.RowKit Go.Shelf Go.Maps

theorem range_all {n : Nat} {g : Operand} {ps : Array Tmp} {assign body : Code} {Q : Exit → Act → World → Prop} {a : Act} {w : World} (hps : ps.size = 2) {base X mb Bx : Nat} {v : Value} {st : List Th} (hl : st.length ≤ 100000)
    (hg : a.eval g = .func (.func 37) #[] #[.pointer (some ⟨Bx, 0, none⟩)]) (hS : SAt w base X mb v st) (hBx : w.heap[Bx]? = some (.cells #[.pointer (some ⟨X, 0, none⟩)] 24 (0, 0)))
    (I : Nat → List (List Int) → Nat → World → Prop) (hI : ∀ z yss k W W', I z yss k W → Turns (fun b => b = w.heap.size + 1) W W' → I z yss k W')
    (h0 : ∀ W2 yss xss, Below w.heap.size w W2 → w.heap.size + 2 ≤ W2.heap.size → Cls st st.length xss → yss.Perm xss → I W2.heap.size yss 0 W2)
    (hround : ∀ (l z : Nat) (yss : List (List Int)) (k : Nat) (u : Value) (W : World) (K : Act → World → Prop), w.heap.size + 2 ≤ z → k < yss.length → yss.length ≤ 100000 → 0 < (yss.getD k []).length → (∀ b, u.ownBlock = some b → w.heap.size + 2 ≤ b ∧ b < z) →
      (∀ a', (∀ Wb, I z yss k Wb → Wb.ownsRow (w.heap.size + 2) 3 1 u (yss.getD k []).length (intsI (yss.getD k [])) → body.wpIn (Fence.wide.inRound l) 0 Try.prog (fun e _ W' => e = .normal ∧ Turns (fun b => u.ownBlock = some b ∨ b < w.heap.size ∨ z ≤ b) Wb W' ∧ I z yss (k + 1) W') a' Wb) → K a' W) →
      assign.wpIn (Fence.wide.inRound l) 0 Try.prog (Exit.then K (fun _ _ _ => False)) { tmps := (ps.zip #[.int .i64 ((yss.getD k []).getD 0 0), u]).foldl (fun t (p, v) => t.setIfInBounds p v) a.tmps, defers := [] } W)
    (hdone : ∀ (D z : Nat) (yss : List (List Int)) (W : World), I z yss yss.length W → D = w.heap.size → W.heap[D]? = some (.deferred (some [])) → Q .normal { a with defers := { target := .collected D, args := #[] } :: a.defers } W) :
    (Code.rangeFunc g ps assign body).wpIn Fence.wide n Try.prog Q a w := by
  have HSB : Hid (∀ W, Below w.heap.size w W → SAt W base X mb v st) := fun W hb => hS.below hb
  have hBl := lt_of hBx
  refine wpIn_rangeFunc ?_
  intro fn hfn
  rw [show Fence.wide.round = none from rfl]
  generalize hL : w.heap.size + 1 = L at *
  generalize hD : w.heap.size = D at *
  generalize hR : (fun (st : LoopState) (pe : Option Code) => ({ state := st, pending := pe, fn := fn, tmps := a.tmps, params := ps, assign := assign, body := body, defers := D } : Loop)) = R
  generalize hW : (w.alloc (.deferred (some []))).alloc (.loop (R .ready none)) = W1
  have kL : W1.heap[L]? = some (.loop (R .ready none)) := by
    rw [← hW, ← hL, ← hD]; have := World.alloc_heap_new (w.alloc (.deferred (some []))) (.loop (R .ready none)); rwa [World.size_alloc] at this
  have kD : W1.heap[D]? = some (.deferred (some [])) := by
    rw [← hW, ← hD]; exact (Below.heap_alloc _ _ _ (by simp)).trans (World.alloc_heap_new w _)
  have hBe : Below D w W1 := by rw [← hW, ← hD]; exact ((Below.refl _ w).alloc (Nat.le_refl _) _).alloc (by simp) _
  have hsz : W1.heap.size = D + 2 := by rw [← hW, ← hD]; simp
  have nDL : D ≠ L := by omega
  refine ⟨L, [{ target := .collected D, args := #[] }], W1, { target := .fn (.func 37) #[.pointer (some ⟨Bx, 0, none⟩)], args := #[.func (.yield L) #[] #[]] }, W1, 37, #[.func (.yield L) #[] #[]] ++ #[.pointer (some ⟨Bx, 0, none⟩)], W1, ?_, ?_, ?_, ?_, fun h => by simp [Fence.wide] at h, ?_⟩
  · rw [← hL, ← hW, ← hR, ← hD]; exact run_enterLoop_outer _ _ _ _ _
  · simp only [resolve, hg]
    simp [go_sem]
  · intro f' hf'; trivial
  · simp [invoke, go_sem]
  · have hend : ∀ (W2 : World) (st : LoopState) (pe : Option Code), st ≠ .busy → W2.heap[L]? = some (.loop (R st pe)) → (Instr.endLoop L).run Try.prog W2 = .ok pe (W2.putObj L (.loop { R st pe with state := .exhausted })) := by
      intro W2 st pe hs hl
      have := run_endLoop (P := Try.prog) hl (by rw [← hR]; exact hs)
      rw [this, ← hR]
    refine (callsIn_any (all_gives base X mb v st hl Bx W1 (HSB.out W1 hBe) ((hBe.block _ (by omega)).trans hBx) L (fun z yss k W => I z yss k W ∧ W.heap[L]? = some (.loop (R .ready none)) ∧ W.heap[D]? = some (.deferred (some [])))
      (fun _ => False) ?h0 ?yield)).mono ?_
    case h0 =>
      intro W2 yss xss hb hC hp
      have hDW : Below D w W2 := hBe.trans (hb.mono (by omega))
      exact ⟨h0 W2 yss xss hDW (by have := hb.size; omega) hC hp, (hb.block L (by omega)).trans kL, (hb.block D (by omega)).trans kD⟩
    case yield =>
      rintro z yss k u W ⟨hi, hl, hd⟩ hz hk hlen how hpos hub
      have hlt : L < W.heap.size := (Array.getElem?_eq_some_iff.1 hl).1
      have hu2 : ∀ b, u.ownBlock = some b → D + 2 ≤ b ∧ b < z := fun b hb => ⟨by have := (how.lt b hb).1; omega, hub b hb⟩
      have hy := run_yield (P := Try.prog) (args := #[.int .i64 ((yss.getD k []).getD 0 0), u]) hl (by rw [← hR]; exact hps.symm)
      rw [← hR] at hy
      refine ⟨fn, _, assign, body, hy, roundIn_of_wpIn hfn (hround L z yss k u W _ (by omega) hk hlen hpos hu2 fun a' hbody => ⟨_, run_beginRound hl (by rw [← hR]), ?_⟩)⟩
      generalize hB2 : W.putObj L (.loop { R .ready none with state := .busy }) = Wb
      have bl : Wb.heap[L]? = some (.loop { R .ready none with state := .busy }) := by rw [← hB2]; exact World.putObj_heap_same (by omega)
      have bd : Wb.heap[D]? = some (.deferred (some [])) := by rw [← hB2]; exact (World.putObj_heap_other nDL).trans hd
      have bt : Turns (fun b => b = L) W Wb := by rw [← hB2]; exact Turns.putObj _ _ _ rfl
      have bi : I z yss k Wb := hI z yss k _ _ hi bt
      have bo : Wb.ownsRow (D + 2) 3 1 u (yss.getD k []).length (intsI (yss.getD k [])) := by
        rw [← hsz]
        exact owns_turns how bt (fun b hb e => by have := (hu2 b hb).1; omega)
      have bs := bt.size
      refine wpIn_mono (hbody Wb bi bo) ?_
      intro e a3 W3 hp
      obtain ⟨rfl, ht, ki⟩ := hp
      have l3 := (ht.block L (by omega) (fun h => by rcases h with h | h | h; exact (by have := (hu2 L h).1; omega); omega; omega)).trans bl
      have d3 := (ht.block D (by omega) (fun h => by rcases h with h | h | h; exact (by have := (hu2 D h).1; omega); omega; omega)).trans bd
      refine ⟨_, _, run_endRound (P := Try.prog) none l3, .inl ⟨rfl, ⟨hI _ _ _ W3 _ ki (Turns.putObj _ _ _ rfl), ?_, (World.putObj_heap_other nDL).trans d3⟩, ?_⟩⟩
      · rw [World.putObj_heap_same (Array.getElem?_eq_some_iff.1 l3).1]; rw [← hR]; rfl
      · exact ((bt.mono fun b hb => .inr (.inl (by omega))).trans (ht.mono fun b hb => by rcases hb with h | h | h; exact .inl h; exact .inr (.inl (by omega)); exact .inr (.inr h))).trans (Turns.putObj _ _ _ (.inr (.inl (by omega))))
    · rintro e W2 ⟨⟨v, rfl⟩, ⟨z, yss, hi, hl, hd⟩ | h⟩
      · exact ⟨none, _, hend W2 .ready none (by simp) hl, hdone D z yss _ (hI z yss _ W2 _ hi (Turns.putObj _ _ _ rfl)) rfl ((World.putObj_heap_other nDL).trans hd)⟩
      · exact h.elim

end Go.Proofs.Ytcebidhfgdchlaa
