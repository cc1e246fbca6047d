/-
  A loop over lines (layer 5): what its body owes, and what holds behind it.
-/
import Derived.Test.YtbfmadcppnfgpaaGreatDoorLines
namespace Go.Proofs.YtbfmadcppnfgpaaGreatDoor
open Go.ChangeShapes Go.WideShapes Go.ChangeAt Go.RowKit Go.Shelf

attribute [local go_sem] Oper.semAt_some

/-- How the body of a round over lines may be left: it goes on, the iterator's own line as it was, or the function returns. -/
def lnPost (B Bx : Nat) (I : Nat → World → Prop) (Ix : World → Prop) (k : Nat) (W : World) : Exit → Act → World → Prop
  | .normal, _, W' => KeepsFrom B W W' ∧ W'.heap[Bx]? = W.heap[Bx]? ∧ I k W'
  | .ret, _, W' => KeepsFrom B W W' ∧ Ix W'
  | _, _, _ => False

theorem heap_put (W : World) (r b : Nat) (x : Obj) (h : b ≠ r) : (W.putObj r x).heap[b]? = W.heap[b]? := World.putObj_heap_other h

/-- Lines, gone over by a loop whose body keeps I, or returns. -/
theorem range_lines {F : Fence} {n : Nat} {g : Operand} {ps : Array Tmp} {assign body : Code} {Q : Exit → Act → World → Prop} {a : Act} {w : World}
    (hro : F.round = none) (h2 : 2 ≤ n) (h38 : F.fn 39) {Bl blk off cap : Nat} {ls : List Ln} {av : Option Addr} (hg : a.eval g = .func (.func 39) #[] #[.pointer (some ⟨Bl, 0, none⟩)]) (hps : ps.size = 2) (hreach : ls.length ≤ 1000000000000000)
    (hBlt : Bl < w.heap.size) (hB : w.cell? ⟨Bl, 0, none⟩ = some (.slice av ls.length cap)) (hav : 0 < ls.length → av = some ⟨blk, off, none⟩)
    (I : Nat → World → Prop) (Ix : World → Prop)
    (hrd : ∀ k W, I k W → HasLines W blk off ls) (hIa : ∀ k W o, I k W → I k (W.alloc o))
    (hIo : ∀ k W r o o', I k W → w.heap.size ≤ r → W.heap[r]? = some o → o.isCells = false → I k (W.putObj r o'))
    (hIxo : ∀ W r o o', Ix W → w.heap.size ≤ r → W.heap[r]? = some o → o.isCells = false → Ix (W.putObj r o'))
    (h0 : I 0 w) (a₁ : Nat → Ln → Nat → Act)
    (hassign : ∀ (l k : Nat) (W : World) (K : Act → World → Prop) (hk : k < ls.length), K (a₁ (plc ls k) (ls[k]'hk) W.heap.size) (W.alloc (.cells #[.int .i64 (ls[k]'hk).L, .int .i64 (ls[k]'hk).o, .int .i64 (ls[k]'hk).a, .int .i64 (ls[k]'hk).b, .int .i64 (ls[k]'hk).c, .int .i64 (ls[k]'hk).i, .int .i64 (ls[k]'hk).t] 38)) →
      assign.wpIn (F.inRound l) (n - 1 - 1) Tryz.prog (Exit.then K (fun _ _ _ => False)) { tmps := (ps.zip #[Value.int .i64 (plc ls k), .agg #[.int .i64 (ls[k]'hk).L, .int .i64 (ls[k]'hk).o, .int .i64 (ls[k]'hk).a, .int .i64 (ls[k]'hk).b, .int .i64 (ls[k]'hk).c, .int .i64 (ls[k]'hk).i, .int .i64 (ls[k]'hk).t]]).foldl (fun t (p, v) => t.setIfInBounds p v) a.tmps, defers := [] } W)
    (hbody : ∀ (l k Bx By : Nat) (W : World) (hk : k < ls.length), I k W → w.heap.size ≤ Bx → w.heap.size ≤ By → Bx ≠ By → BoxLn W Bx (ls[k]'hk) → BoxLn W By (ls[k]'hk) → body.wpIn (F.inRound l) (n - 1 - 1) Tryz.prog (lnPost w.heap.size Bx I Ix (k + 1) W) (a₁ (plc ls k) (ls[k]'hk) By) W)
    (hdone : ∀ (D : Nat) (W : World), I ls.length W → w.heap.size ≤ D → W.heap[D]? = some (.deferred (some [])) → Q .normal { a with defers := { target := .collected D, args := #[] } :: a.defers } W)
    (hstop : ∀ (D : Nat) (W : World), Ix W → w.heap.size ≤ D → W.heap[D]? = some (.deferred (some [])) → Code.ret.wpIn F n Tryz.prog Q { a with defers := { target := .collected D, args := #[] } :: a.defers } W) :
    (Code.rangeFunc g ps assign body).wpIn F n Tryz.prog Q a w := by
  refine wpIn_rangeFunc ?_
  intro fn hfn
  rw [hro]
  generalize hL : w.heap.size + 1 = L
  generalize hD : w.heap.size = D at hIo hIxo hBlt hbody
  generalize hR : (fun (st : LoopState) (pe : Option Code) => ({ state := st, pending := pe, fn := fn, tmps := a.tmps, params := ps, assign := assign, body := body, defers := D } : Loop)) = R
  generalize hW : (w.alloc (.deferred (some []))).alloc (.loop (R .ready none)) = W1
  have kL : W1.heap[L]? = some (.loop (R .ready none)) := by
    rw [← hW, ← hL]; have := World.alloc_heap_new (w.alloc (.deferred (some []))) (.loop (R .ready none)); rwa [World.size_alloc] at this
  have kD : W1.heap[D]? = some (.deferred (some [])) := by
    rw [← hW, ← hD]; exact (Below.heap_alloc _ _ _ (by simp)).trans (World.alloc_heap_new w _)
  have hBe : Below w.heap.size w W1 := by rw [← hW]; exact ((Below.refl _ w).alloc (Nat.le_refl _) _).alloc (by simp) _
  have kB : W1.cell? ⟨Bl, 0, none⟩ = some (.slice av ls.length cap) := (hBe.cell (p := ⟨Bl, 0, none⟩) (by show Bl < _; omega)).trans hB
  have kI : I 0 W1 := by rw [← hW]; exact hIa _ _ _ (hIa _ _ _ h0)
  have nDL : D ≠ L := by omega
  refine ⟨L, [{ target := .collected D, args := #[] }], W1, { target := .fn (.func 39) #[.pointer (some ⟨Bl, 0, none⟩)], args := #[.func (.yield L) #[] #[]] }, W1, 39, #[.func (.yield L) #[] #[], .pointer (some ⟨Bl, 0, none⟩)], W1, ?_, ?_, ?_, ?_, fun _ => by omega, ?_⟩
  · rw [← hL, ← hW, ← hR, ← hD]; exact run_enterLoop_outer _ _ _ _ _
  · simp only [resolve, hg]
    simp [go_sem]
  · intro f' hf'; simp [Target.leads] at hf'; subst hf'; exact h38
  · simp [invoke, go_sem]
  · have hend : ∀ (W2 : World) (st : LoopState) (pe : Option Code), st ≠ .busy → W2.heap[L]? = some (.loop (R st pe)) → (Instr.endLoop L).run Tryz.prog W2 = .ok pe (W2.putObj L (.loop { R st pe with state := .exhausted })) := by
      intro W2 st pe hs hl
      have := run_endLoop (P := Tryz.prog) hl (by rw [← hR]; exact hs)
      rw [this, ← hR]
    refine (lines_in F (n - 1) h38 hro (by omega) L Bl blk off cap ls av hav hreach (fun k W => I k W ∧ W.heap[L]? = some (.loop (R .ready none)) ∧ W.heap[D]? = some (.deferred (some [])))
      (fun W => Ix W ∧ W.heap[L]? = some (.loop (R .done (some .ret))) ∧ W.heap[D]? = some (.deferred (some []))) ?rd ?al D ?ge ?yield W1 kB ⟨kI, kL, kD⟩).mono ?_
    case rd => exact fun k W hJ => hrd k W hJ.1
    case al => exact fun k W o ⟨hi, hl, hd⟩ => ⟨hIa k W o hi, (Below.heap_alloc W o L (Array.getElem?_eq_some_iff.1 hl).1).trans hl, (Below.heap_alloc W o D (Array.getElem?_eq_some_iff.1 hd).1).trans hd⟩
    case ge => exact fun k W ⟨_, _, hd⟩ => Nat.le_of_lt (Array.getElem?_eq_some_iff.1 hd).1
    case yield =>
      intro k W Bx hk ⟨hi, hl, hd⟩ hBx hbx
      have hlt : L < W.heap.size := (Array.getElem?_eq_some_iff.1 hl).1
      have nXL : Bx ≠ L := by intro e; subst e; rw [show W.heap[Bx]? = _ from hbx] at hl; cases hl
      have hy := run_yield (P := Tryz.prog) (args := #[Value.int .i64 (plc ls k), .agg #[.int .i64 (ls[k]'hk).L, .int .i64 (ls[k]'hk).o, .int .i64 (ls[k]'hk).a, .int .i64 (ls[k]'hk).b, .int .i64 (ls[k]'hk).c, .int .i64 (ls[k]'hk).i, .int .i64 (ls[k]'hk).t]]) hl (by rw [← hR]; exact hps.symm)
      rw [← hR] at hy
      refine ⟨fn, _, assign, body, hy, roundIn_of_wpIn hfn (hassign _ k W _ hk ⟨_, run_beginRound ((Below.heap_alloc W _ L hlt).trans hl) (by rw [← hR]), ?_⟩)⟩
      generalize hB2 : (W.alloc (.cells #[.int .i64 (ls[k]'hk).L, .int .i64 (ls[k]'hk).o, .int .i64 (ls[k]'hk).a, .int .i64 (ls[k]'hk).b, .int .i64 (ls[k]'hk).c, .int .i64 (ls[k]'hk).i, .int .i64 (ls[k]'hk).t] 38)).putObj L (.loop { R .ready none with state := .busy }) = Wb
      have nYL : W.heap.size ≠ L := by omega
      have bl : Wb.heap[L]? = some (.loop { R .ready none with state := .busy }) := by rw [← hB2]; exact World.putObj_heap_same (by simp; omega)
      have bd : Wb.heap[D]? = some (.deferred (some [])) := by rw [← hB2]; exact (World.putObj_heap_other nDL).trans ((Below.heap_alloc W _ D (Array.getElem?_eq_some_iff.1 hd).1).trans hd)
      have bx : Wb.heap[Bx]? = W.heap[Bx]? := by rw [← hB2]; exact (heap_put _ _ _ _ nXL).trans (Below.heap_alloc W _ Bx hbx.lt)
      have bb : BoxLn Wb Bx (ls[k]'hk) := bx.trans hbx
      have by' : BoxLn Wb W.heap.size (ls[k]'hk) := by rw [← hB2]; exact (heap_put _ _ _ _ nYL).trans (World.alloc_heap_new W _)
      have bi : I k Wb := by rw [← hB2]; exact hIo k _ L _ _ (hIa k W _ hi) (by omega) ((Below.heap_alloc W _ L hlt).trans hl) rfl
      have hge : D ≤ W.heap.size := by omega
      refine wpIn_mono (hbody L k Bx W.heap.size Wb hk bi hBx hge (by have := hbx.lt; omega) bb by') ?_
      intro e a3 W3 hp
      cases e with
      | normal =>
        obtain ⟨ko, kx, ki⟩ := hp
        have l3 := ko.same L _ (by omega) bl rfl
        have d3 := ko.same D _ (by omega) bd rfl
        refine ⟨_, _, run_endRound (P := Tryz.prog) none l3, .inl ⟨rfl, ⟨hIo (k + 1) W3 L _ _ ki (by omega) l3 rfl, ?_, (World.putObj_heap_other nDL).trans d3⟩, ?_⟩⟩
        · rw [World.putObj_heap_same (Array.getElem?_eq_some_iff.1 l3).1]; rw [← hR]; rfl
        · rw [heap_put _ _ _ _ nXL, kx, bx]
      | ret =>
        obtain ⟨ko, ki⟩ := hp
        have l3 := ko.same L _ (by omega) bl rfl
        have d3 := ko.same D _ (by omega) bd rfl
        refine ⟨_, _, run_endRound (P := Tryz.prog) (some .ret) l3, .inr ⟨rfl, hIxo W3 L _ _ ki (by omega) l3 rfl, ?_, (World.putObj_heap_other nDL).trans d3⟩⟩
        rw [World.putObj_heap_same (Array.getElem?_eq_some_iff.1 l3).1]; rw [← hR]; rfl
      | exit id => exact hp.elim
      | goto t => exact hp.elim
      | panic ch => exact hp.elim
      | outgrown => exact hp.elim
    · rintro e W2 ⟨⟨v, rfl⟩, ⟨hi, hl, hd⟩ | ⟨hi, hl, hd⟩⟩
      · exact ⟨none, _, hend W2 .ready none (by simp) hl, hdone D _ (hIo _ W2 L _ _ hi (by omega) hl rfl) (by omega) ((World.putObj_heap_other nDL).trans hd)⟩
      · exact ⟨some .ret, _, hend W2 .done (some .ret) (by simp) hl, hstop D _ (hIxo W2 L _ _ hi (by omega) hl rfl) (by omega) ((World.putObj_heap_other nDL).trans hd)⟩

/-- Behind the maker of the iterator: one new block that holds the row. -/
theorem linesOf_in (F : Fence) (n : Nat) (h24 : F.fn 27) (hro : F.round = none) (a : Option Addr) (len cap : Nat) (w : World) :
    CallsIn F n Tryz.prog 27 #[.slice a len cap] w fun e w' => e = .returned (.func (.func 39) #[] #[.pointer (some ⟨w.heap.size, 0, none⟩)]) ∧ w' = w.alloc (.cells #[.slice a len cap] 42) := by
  refine callsIn_of_wp Tryz.func27 rfl h24 ?_ hro
  simp only [Tryz.ntmps27, List.size_toArray, List.length_cons, List.length_nil, Nat.reduceAdd, Nat.reduceSub, Array.replicate_succ, Array.replicate_zero, List.push_toArray, List.append_toArray, List.nil_append, List.cons_append]
  gi_wp2
  go_ret
  exact ⟨rfl, rfl⟩

end Go.Proofs.YtbfmadcppnfgpaaGreatDoor
