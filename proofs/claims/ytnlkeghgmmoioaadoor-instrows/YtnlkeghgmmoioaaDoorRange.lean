/-
  A loop over chunks (layer 2): what its body owes, and what holds behind it.
-/
import Derived.Test.YtnlkeghgmmoioaaDoorChunks
namespace Go.Proofs.YtnlkeghgmmoioaaDoor
open Go.ChangeShapes Go.WideShapes Go.ChangeAt Go.RowKit Go.Shelf


attribute [local go_sem] Oper.semAt_some

/-- How the body of a round over chunks may be left: it goes on, the iterator's own variable as it was, or the function returns. -/
def capPost (Bc : Nat) (I : Nat → World → Prop) (Ix : World → Prop) (k : Nat) (W : World) : Exit → Act → World → Prop
  | .normal, _, W' => KeepsOthers W W' ∧ W'.cell? ⟨Bc, 0, none⟩ = W.cell? ⟨Bc, 0, none⟩ ∧ W'.frozen? ⟨Bc, 0, none⟩ = W.frozen? ⟨Bc, 0, none⟩ ∧ I k W'
  | .ret, _, W' => KeepsOthers W W' ∧ Ix W'
  | _, _, _ => False

theorem cell_put (W : World) (r b o : Nat) (x : Obj) (h : b ≠ r) : (W.putObj r x).cell? ⟨b, o, none⟩ = W.cell? ⟨b, o, none⟩ := World.cell?_of_block (World.putObj_heap_other h)
theorem frozen_put (W : World) (r b o : Nat) (x : Obj) (h : b ≠ r) : (W.putObj r x).frozen? ⟨b, o, none⟩ = W.frozen? ⟨b, o, none⟩ := World.frozen?_of_block (World.putObj_heap_other h)

/-- One row of chunks, gone over by a loop whose body keeps I, or returns. -/
theorem range_chunks {F : Fence} {n : Nat} {g : Operand} {ps : Array Tmp} {assign body : Code} {Q : Exit → Act → World → Prop} {a : Act} {w : World}
    (hro : F.round = none) (h2 : 2 ≤ n) (h46 : F.fn 46) {Bc blk off len cap : Nat} {av : Option Addr} (hg : a.eval g = .func (.func 46) #[] #[.pointer (some ⟨Bc, 0, none⟩)]) (hps : ps.size = 2) (hlc : len ≤ cap) (hreach : cap ≤ 9223372036854775807)
    (hBlt : Bc < w.heap.size) (hB : w.cell? ⟨Bc, 0, none⟩ = some (.slice av len cap)) (hav : 0 < len → av = some ⟨blk, off, none⟩) (hf : w.frozen? ⟨Bc, 0, none⟩ = false)
    (I : Nat → World → Prop) (Ix : World → Prop)
    (hIo : ∀ k W r o o', I k W → w.heap.size ≤ r → W.heap[r]? = some o → o.isCells = false → I k (W.putObj r o'))
    (hIxo : ∀ W r o o', Ix W → w.heap.size ≤ r → W.heap[r]? = some o → o.isCells = false → Ix (W.putObj r o'))
    (hIs : ∀ k W v, I k W → I k (W.setCell ⟨Bc, 0, none⟩ v))
    (h0 : ∀ d r, I 0 ((w.alloc d).alloc r)) (a₁ : Nat → Act)
    (hassign : ∀ (l k : Nat) (W : World) (K : Act → World → Prop), 8 * k < len → K (a₁ k) W →
      assign.wpIn (F.inRound l) (n - 1 - 1) Tryd.prog (Exit.then K (fun _ _ _ => False)) { tmps := (ps.zip #[Value.int .i64 k, .slice (some ⟨blk, off + 8 * k, none⟩) (min 8 (len - 8 * k)) (cap - 8 * k)]).foldl (fun t (p, v) => t.setIfInBounds p v) a.tmps, defers := [] } W)
    (hbody : ∀ (l k : Nat) (W : World), 8 * k < len → I k W → body.wpIn (F.inRound l) (n - 1 - 1) Tryd.prog (capPost Bc I Ix (k + 1) W) (a₁ k) W)
    (hdone : ∀ (D k : Nat) (W : World), len ≤ 8 * k → 8 * k < len + 8 → I k W → w.heap.size ≤ D → W.heap[D]? = some (.deferred (some [])) → Q .normal { a with defers := { target := .collected D, args := #[] } :: a.defers } W)
    (hstop : ∀ (D : Nat) (W : World), Ix W → w.heap.size ≤ D → W.heap[D]? = some (.deferred (some [])) → Code.ret.wpIn F n Tryd.prog Q { a with defers := { target := .collected D, args := #[] } :: a.defers } W) :
    (Code.rangeFunc g ps assign body).wpIn F n Tryd.prog Q a w := by
  refine wpIn_rangeFunc ?_
  intro fn hfn
  rw [hro]
  generalize hL : w.heap.size + 1 = L
  generalize hD : w.heap.size = D at hIo hIxo hBlt
  generalize hR : (fun (st : LoopState) (pe : Option Code) => ({ state := st, pending := pe, fn := fn, tmps := a.tmps, params := ps, assign := assign, body := body, defers := D } : Loop)) = R
  generalize hW : (w.alloc (.deferred (some []))).alloc (.loop (R .ready none)) = W1
  have kL : W1.heap[L]? = some (.loop (R .ready none)) := by
    rw [← hW, ← hL]; have := World.alloc_heap_new (w.alloc (.deferred (some []))) (.loop (R .ready none)); rwa [World.size_alloc] at this
  have kD : W1.heap[D]? = some (.deferred (some [])) := by
    rw [← hW, ← hD]; exact (Below.heap_alloc _ _ _ (by simp)).trans (World.alloc_heap_new w _)
  have hBe : Below w.heap.size w W1 := by rw [← hW]; exact ((Below.refl _ w).alloc (Nat.le_refl _) _).alloc (by simp) _
  have kB : W1.cell? ⟨Bc, 0, none⟩ = some (.slice av len cap) := (hBe.cell (p := ⟨Bc, 0, none⟩) (by show Bc < _; omega)).trans hB
  have kF : W1.frozen? ⟨Bc, 0, none⟩ = false := (hBe.frozen (p := ⟨Bc, 0, none⟩) (by show Bc < _; omega)).trans hf
  have kI : I 0 W1 := by rw [← hW]; exact h0 _ _
  have nBL : Bc ≠ L := by omega
  have nBD : Bc ≠ D := by omega
  have nDL : D ≠ L := by omega
  refine ⟨L, [{ target := .collected D, args := #[] }], W1, { target := .fn (.func 46) #[.pointer (some ⟨Bc, 0, none⟩)], args := #[.func (.yield L) #[] #[]] }, W1, 46, #[.func (.yield L) #[] #[], .pointer (some ⟨Bc, 0, none⟩)], W1, ?_, ?_, ?_, ?_, fun _ => by omega, ?_⟩
  · rw [← hL, ← hW, ← hR, ← hD]; exact run_enterLoop_outer _ _ _ _ _
  · simp only [resolve, hg]
    simp [go_sem]
  · intro f' hf'; simp [Target.leads] at hf'; subst hf'; exact h46
  · simp [invoke, go_sem]
  · have hend : ∀ (W2 : World) (st : LoopState) (pe : Option Code), st ≠ .busy → W2.heap[L]? = some (.loop (R st pe)) → (Instr.endLoop L).run Tryd.prog W2 = .ok pe (W2.putObj L (.loop { R st pe with state := .exhausted })) := by
      intro W2 st pe hs hl
      have := run_endLoop (P := Tryd.prog) hl (by rw [← hR]; exact hs)
      rw [this, ← hR]
    have fin : ∀ W2 k, I k W2 → W2.heap[L]? = some (.loop (R .ready none)) → W2.heap[D]? = some (.deferred (some [])) → len ≤ 8 * k → 8 * k < len + 8 → ∃ jump w4, (Instr.endLoop L).run Tryd.prog W2 = .ok jump w4 ∧ (match jump with | none => Q .normal { a with defers := [{ target := .collected D, args := #[] }] ++ a.defers } w4 | some c => c.wpIn F n Tryd.prog Q { a with defers := [{ target := .collected D, args := #[] }] ++ a.defers } w4) := fun W2 k hi hl hd hk1 hk2 =>
      ⟨none, _, hend W2 .ready none (by simp) hl, hdone D k _ hk1 hk2 (hIo k W2 L _ _ hi (by omega) hl rfl) (by omega) ((World.putObj_heap_other nDL).trans hd)⟩
    by_cases hz : len = 0
    · subst hz
      refine (chunks_none F (n - 1) h46 hro L Bc cap av (fun k W => I k W ∧ W.heap[L]? = some (.loop (R .ready none)) ∧ W.heap[D]? = some (.deferred (some []))) W1 kB ⟨kI, kL, kD⟩).mono ?_
      rintro e W2 ⟨⟨v, rfl⟩, hi, hl, hd⟩
      exact fin W2 0 hi hl hd (by omega) (by omega)
    · obtain rfl := hav (by omega)
      refine (chunks_in F (n - 1) h46 hro (by omega) L Bc blk off len cap hlc hreach (fun k W => I k W ∧ W.heap[L]? = some (.loop (R .ready none)) ∧ W.heap[D]? = some (.deferred (some [])))
        (fun W => Ix W ∧ W.heap[L]? = some (.loop (R .done (some .ret))) ∧ W.heap[D]? = some (.deferred (some []))) ?st ?yield W1 kB kF ⟨kI, kL, kD⟩).mono ?_
      case st =>
        intro k W v ⟨hi, hl, hd⟩
        exact ⟨hIs k W v hi, (Below.heap_setCell W _ v L (Ne.symm nBL)).trans hl, (Below.heap_setCell W _ v D (Ne.symm nBD)).trans hd⟩
      case yield =>
        intro k W ⟨hi, hl, hd⟩ hk
        have hlt : L < W.heap.size := (Array.getElem?_eq_some_iff.1 hl).1
        have hy := run_yield (P := Tryd.prog) (args := #[Value.int .i64 k, .slice (some ⟨blk, off + 8 * k, none⟩) (min 8 (len - 8 * k)) (cap - 8 * k)]) hl (by rw [← hR]; exact hps.symm)
        rw [← hR] at hy
        refine ⟨fn, _, assign, body, hy, roundIn_of_wpIn hfn (hassign _ k W _ hk ⟨_, run_beginRound hl (by rw [← hR]), ?_⟩)⟩
        generalize hB2 : W.putObj L (.loop { R .ready none with state := .busy }) = Wb
        have bl : Wb.heap[L]? = some (.loop { R .ready none with state := .busy }) := by rw [← hB2]; exact World.putObj_heap_same hlt
        have bd : Wb.heap[D]? = some (.deferred (some [])) := by rw [← hB2]; exact (World.putObj_heap_other nDL).trans hd
        have bc : Wb.cell? ⟨Bc, 0, none⟩ = W.cell? ⟨Bc, 0, none⟩ := by rw [← hB2]; exact cell_put W L Bc 0 _ nBL
        have bf : Wb.frozen? ⟨Bc, 0, none⟩ = W.frozen? ⟨Bc, 0, none⟩ := by rw [← hB2]; exact frozen_put W L Bc 0 _ nBL
        have bi : I k Wb := by rw [← hB2]; exact hIo k W L _ _ hi (by omega) hl rfl
        refine wpIn_mono (hbody L k Wb hk bi) ?_
        intro e a3 W3 hp
        cases e with
        | normal =>
          obtain ⟨ko, kc, kf, ki⟩ := hp
          have l3 := ko.same L _ bl rfl
          have d3 := ko.same D _ bd rfl
          refine ⟨_, _, run_endRound (P := Tryd.prog) none l3, .inl ⟨rfl, ⟨hIo (k + 1) W3 L _ _ ki (by omega) l3 rfl, ?_, (World.putObj_heap_other nDL).trans d3⟩, ?_, ?_⟩⟩
          · rw [World.putObj_heap_same (Array.getElem?_eq_some_iff.1 l3).1]; rw [← hR]; rfl
          · rw [cell_put _ _ _ _ _ nBL, kc, bc]
          · rw [frozen_put _ _ _ _ _ nBL, kf, bf]
        | ret =>
          obtain ⟨ko, ki⟩ := hp
          have l3 := ko.same L _ bl rfl
          have d3 := ko.same D _ bd rfl
          refine ⟨_, _, run_endRound (P := Tryd.prog) (some .ret) l3, .inr ⟨rfl, hIxo W3 L _ _ ki (by omega) l3 rfl, ?_, (World.putObj_heap_other nDL).trans d3⟩⟩
          rw [World.putObj_heap_same (Array.getElem?_eq_some_iff.1 l3).1]; rw [← hR]; rfl
        | exit id => exact hp.elim
        | goto t => exact hp.elim
        | panic ch => exact hp.elim
        | outgrown => exact hp.elim
      · rintro e W2 ⟨⟨v, rfl⟩, ⟨k, hk1, hk2, hi, hl, hd⟩ | ⟨hi, hl, hd⟩⟩
        · exact fin W2 k hi hl hd hk1 hk2
        · exact ⟨some .ret, _, hend W2 .done (some .ret) (by simp) hl, hstop D _ (hIxo W2 L _ _ hi (by omega) hl rfl) (by omega) ((World.putObj_heap_other nDL).trans hd)⟩

end Go.Proofs.YtnlkeghgmmoioaaDoor
