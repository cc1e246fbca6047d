/-
  Ranges over functions, one within another (layer 7): the outer one whose variable is boxed, the inner one that may be left; drawn regions within a round.
-/
import Derived.Test.YtonoeodlchkiaaaUpw
import Derived.OrdersHeld
import Derived.Deep.RegionHeld
namespace Go.Proofs.Ytonoeodlchkiaaa
open Go.ChangeShapes Go.WideShapes Go.ChangeAt Go.RowKit Go.Shelf

attribute [local go_sem] Oper.semAt_some

theorem oper_wide {P : Program} {o : Oper} {a : Act} {w : World} {K : Act → World → Prop} {Q : Exit → Act → World → Prop} {n : Nat} (h : o.wp P a w K Q) : o.wpIn Fence.wide n P a w K Q := by
  refine ⟨fun _ _ => trivial, ?_⟩
  change o.uponIn Fence.wide n P a K Q ((execOp a.eval o).run P w)
  unfold Oper.wp at h
  revert h
  generalize (execOp a.eval o).run P w = r
  intro h
  unfold Oper.upon at h
  split at h
  · exact h
  · exact h
  · exact h
  · exact ⟨fun h => by simp [Fence.wide] at h, callsIn_wide.2 h⟩
  · refine ⟨fun h => by simp [Fence.wide] at h, fun c cs _ => ?_⟩
    obtain ⟨v, w', r, s⟩ := h c cs
    exact ⟨v, w', r, stepsIn_wide.2 s⟩
  · exact h
  · exact h.elim
theorem any_wide {P : Program} {ops : Array Oper} {Q : Exit → Act → World → Prop} {md : Region.Mode} {n : Nat} (hout : ¬ LetsOut Q) : ∀ (fuel : Nat) (listed : Array Bool) (a : Act) (w : World), wpAny P md ops Q fuel listed a w → wpAnyIn Fence.wide n P md ops Q fuel listed a w
  | 0, _, _, _, h => h
  | fuel + 1, _, _, _, h => by
    refine ⟨h.1, fun i hi => ?_⟩
    have h2 := wpOp_mono (fun a w hk => any_wide (n := n) hout fuel _ a w hk) (h.2 i hi)
    unfold wpOp at h2
    unfold wpOpIn
    cases ho : ops[i]? with
    | none => rw [ho] at h2; exact h2
    | some o =>
      rw [ho] at h2
      simp only at h2 ⊢
      split
      · rename_i hw; rw [if_pos hw] at h2; exact oper_wide (h2.resolve_right fun h => hout h.2)
      · rename_i hw; rw [if_neg hw] at h2; exact ⟨fun _ _ => trivial, h2⟩
/-- A drawn region in a round, walked with what it holds. -/
theorem region_round_held {P : Program} {ops : Array Oper} {Q : Exit → Act → World → Prop} {S : World → Prop} {n : Nat} {l id : Nat} {a : Act} {w : World} (hm : P.follows .mixedOrders = true) (hd : noDefer ops = true) (hout : ¬ LetsOut Q) (hS : S w.drew)
    (h : S w.drew → wpAnyH P .any ops Q S ops.size (Array.replicate ops.size false) a w.drew) : (Code.region id ops true).wpIn (Fence.wide.inRound l) n P Q a w :=
  region_round hm hd (any_wide hout _ _ _ _ (wpAny_of_held _ _ _ _ (h hS)))

/-- How the body of a round may be left: also by an exit. -/
def itPostX {α : Type} (ex : Nat) (P : Nat → Prop) (I : List α → World → Prop) (Ix : World → Prop) (s : List α) (W : World) : Exit → Act → World → Prop
  | .normal, _, W' => W.heap.size ≤ W'.heap.size ∧ (∀ b, P b → W'.heap[b]? = W.heap[b]?) ∧ I s W'
  | .exit id, _, W' => id = ex ∧ W.heap.size ≤ W'.heap.size ∧ (∀ b, P b → W'.heap[b]? = W.heap[b]?) ∧ Ix W'
  | _, _, _ => False

/-- A range over a function whose variable is laid in a box of its own, and whose body is told of the loop's record. -/
theorem range_box {α : Type} {n kk : Nat} {g : Operand} {ps : Array Tmp} {assign body : Code} {Q : Exit → Act → World → Prop} {a : Act} {w : World} {gf : Nat} {lb : Array Value}
    (hg : a.eval g = .func (.func gf) #[] lb) (henter : ∀ args w, (callFunc gf args).run Try.prog w = .ok (.enter gf args) w) {enc : α → Array Value} (hps : ∀ x, (enc x).size = ps.size)
    {Rd : World → Prop} {V : List α → α → Prop} {S : List α → World → Prop} (hS : ∀ s W W', S s W → Turns (fun b => b = w.heap.size + 1) W W' → S s W')
    (hit : ∀ W1, Below w.heap.size w W1 → W1.heap.size = w.heap.size + 2 → Gives gf lb enc (fun _ => False) Rd V S W1 (w.heap.size + 1) kk)
    (I : List α → World → Prop) (hI : ∀ s W W', I s W → Turns (fun b => b = w.heap.size + 1) W W' → I s W')
    (hRd : ∀ s W, I s W → Rd W) (h0 : I [] w)
    (hround : ∀ (s : List α) (x : α) (W : World) (K : Act → World → Prop), V s x → (∀ a' o, (∀ Wb, I s Wb → Wb.heap[W.heap.size]? = some o → Wb.heap.size = W.heap.size + 1 → w.heap.size + 2 + kk ≤ W.heap.size → (∃ r, Wb.heap[w.heap.size + 1]? = some (.loop r)) → body.wpIn (Fence.wide.inRound (w.heap.size + 1)) 0 Try.prog (itPost (fun b => b = w.heap.size ∨ b = w.heap.size + 1) I (fun _ => False) (s ++ [x]) Wb) a' Wb) → K a' (W.alloc o)) →
      assign.wpIn (Fence.wide.inRound (w.heap.size + 1)) 0 Try.prog (Exit.then K (fun _ _ _ => False)) { tmps := (ps.zip (enc x)).foldl (fun t (p, v) => t.setIfInBounds p v) a.tmps, defers := [] } W)
    (hdone : ∀ (D : Nat) (s : List α) (W : World), I s W → S s W → D = w.heap.size → W.heap[D]? = some (.deferred (some [])) → Q .normal { a with defers := { target := .collected D, args := #[] } :: a.defers } W) :
    (Code.rangeFunc g ps assign body).wpIn Fence.wide n Try.prog Q a w := by
  refine wpIn_rangeFunc ?_
  intro fn hfn
  rw [show Fence.wide.round = none from rfl]
  generalize hL : w.heap.size + 1 = L at *
  generalize hD : w.heap.size = D at *
  generalize hR : (fun (st : LoopState) (pe : Option Code) => ({ state := st, pending := pe, fn := fn, tmps := a.tmps, params := ps, assign := assign, body := body, defers := D } : Loop)) = R
  generalize hW : (w.alloc (.deferred (some []))).alloc (.loop (R .ready none)) = W1
  have kL : W1.heap[L]? = some (.loop (R .ready none)) := by
    rw [← hW, ← hL, ← hD]; have := World.alloc_heap_new (w.alloc (.deferred (some []))) (.loop (R .ready none)); rwa [World.size_alloc] at this
  have kD : W1.heap[D]? = some (.deferred (some [])) := by
    rw [← hW, ← hD]; exact (Below.heap_alloc _ _ _ (by simp)).trans (World.alloc_heap_new w _)
  have hBe : Below D w W1 := by rw [← hW, ← hD]; exact ((Below.refl _ w).alloc (Nat.le_refl _) _).alloc (by simp) _
  have hsz : W1.heap.size = D + 2 := by rw [← hW, ← hD]; simp
  have kI : I [] W1 := by rw [← hW]; exact hI _ _ _ (hI _ _ _ h0 (Turns.alloc _ _ _)) (Turns.alloc _ _ _)
  have nDL : D ≠ L := by omega
  refine ⟨L, [{ target := .collected D, args := #[] }], W1, { target := .fn (.func gf) lb, args := #[.func (.yield L) #[] #[]] }, W1, gf, #[.func (.yield L) #[] #[]] ++ lb, W1, ?_, ?_, ?_, ?_, fun h => by simp [Fence.wide] at h, ?_⟩
  · rw [← hL, ← hW, ← hR, ← hD]; exact run_enterLoop_outer _ _ _ _ _
  · simp only [resolve, hg]
    simp [go_sem]
  · intro f' hf'; trivial
  · simp [invoke, go_sem, henter]
  · have hend : ∀ (W2 : World) (st : LoopState) (pe : Option Code), st ≠ .busy → W2.heap[L]? = some (.loop (R st pe)) → (Instr.endLoop L).run Try.prog W2 = .ok pe (W2.putObj L (.loop { R st pe with state := .exhausted })) := by
      intro W2 st pe hs hl
      have := run_endLoop (P := Try.prog) hl (by rw [← hR]; exact hs)
      rw [this, ← hR]
    refine (callsIn_any (hit W1 hBe hsz (fun s W => I s W ∧ W.heap[L]? = some (.loop (R .ready none)) ∧ W.heap[D]? = some (.deferred (some [])))
      (fun W => False) ?tu ?si ?rd ?yield ⟨kI, kL, kD⟩)).mono ?_
    case tu =>
      rintro s W W' ⟨hi, hl, hd⟩ ht
      exact ⟨hI s W W' hi (ht.mono fun b hb => hb.elim), (ht.block L (Array.getElem?_eq_some_iff.1 hl).1 (fun h => h)).trans hl, (ht.block D (Array.getElem?_eq_some_iff.1 hd).1 (fun h => h)).trans hd⟩
    case si =>
      rintro s W ⟨hi, hl, _⟩
      have := (Array.getElem?_eq_some_iff.1 hl).1
      omega
    case rd => exact fun s W h => hRd s W h.1
    case yield =>
      rintro s x W ⟨hi, hl, hd⟩ hv hge
      have hlt : L < W.heap.size := (Array.getElem?_eq_some_iff.1 hl).1
      have hy := run_yield (P := Try.prog) (args := enc x) hl (by rw [← hR]; exact hps x)
      rw [← hR] at hy
      refine ⟨fn, _, assign, body, hy, roundIn_of_wpIn hfn (hround s x W _ hv fun a' ob hbody => ?_)⟩
      have hla : (W.alloc ob).heap[L]? = some (.loop (R .ready none)) := (Below.heap_alloc _ _ _ hlt).trans hl
      have hda : (W.alloc ob).heap[D]? = some (.deferred (some [])) := (Below.heap_alloc _ _ _ (by omega)).trans hd
      have hob : (W.alloc ob).heap[W.heap.size]? = some ob := World.alloc_heap_new W ob
      have hia : I s (W.alloc ob) := hI s _ _ hi (Turns.alloc _ _ _)
      have hsa : (W.alloc ob).heap.size = W.heap.size + 1 := World.size_alloc _ _
      generalize W.alloc ob = Wa at *
      refine ⟨_, run_beginRound hla (by rw [← hR]), ?_⟩
      generalize hB2 : Wa.putObj L (.loop { R .ready none with state := .busy }) = Wb
      have bl : Wb.heap[L]? = some (.loop { R .ready none with state := .busy }) := by rw [← hB2]; exact World.putObj_heap_same (by omega)
      have bd : Wb.heap[D]? = some (.deferred (some [])) := by rw [← hB2]; exact (World.putObj_heap_other nDL).trans hda
      have bs : Wb.heap.size = W.heap.size + 1 := by rw [← hB2]; simp [World.putObj, hsa]
      have bo : Wb.heap[W.heap.size]? = some ob := by rw [← hB2]; exact (World.putObj_heap_other (by omega)).trans hob
      have bi : I s Wb := by rw [← hB2]; exact hI s _ _ hia (Turns.putObj _ _ _ rfl)
      refine wpIn_mono (hbody Wb bi bo bs (by omega) ⟨_, bl⟩) ?_
      intro e a3 W3 hp
      cases e with
      | normal =>
        obtain ⟨ko, kx, ki⟩ := hp
        have l3 := (kx L (.inr rfl)).trans bl
        have d3 := (kx D (.inl rfl)).trans bd
        refine ⟨_, _, run_endRound (P := Try.prog) none l3, .inl ⟨rfl, ⟨hI _ W3 _ ki (Turns.putObj _ _ _ rfl), ?_, (World.putObj_heap_other nDL).trans d3⟩, ?_, fun b hb => hb.elim⟩⟩
        · rw [World.putObj_heap_same (Array.getElem?_eq_some_iff.1 l3).1]; rw [← hR]; rfl
        · simp only [World.putObj, Array.size_setIfInBounds]; omega
      | ret => exact hp.2.2.elim
      | exit id => exact hp.elim
      | goto t => exact hp.elim
      | panic ch => exact hp.elim
      | outgrown => exact hp.elim
    · rintro e W2 ⟨⟨v, rfl⟩, ⟨s, hSs, hi, hl, hd⟩ | hi⟩
      · exact ⟨none, _, hend W2 .ready none (by simp) hl, hdone D s _ (hI s W2 _ hi (Turns.putObj _ _ _ rfl)) (hS s W2 _ hSs (Turns.putObj _ _ _ rfl)) rfl ((World.putObj_heap_other nDL).trans hd)⟩
      · exact hi.elim

/-- A range over a function within a round, which may be left by an exit. -/
theorem range_in {α : Type} {n kk ex : Nat} {g : Operand} {ps : Array Tmp} {assign body : Code} {Q : Exit → Act → World → Prop} {a : Act} {w : World} {gf : Nat} {lb : Array Value} {l₀ : Nat} {r₀ : Loop} (hl₀ : w.heap[l₀]? = some (.loop r₀))
    (hg : a.eval g = .func (.func gf) #[] lb) (henter : ∀ args w, (callFunc gf args).run Try.prog w = .ok (.enter gf args) w) {enc : α → Array Value} (hps : ∀ x, (enc x).size = ps.size)
    {P : Nat → Prop} {Rd : World → Prop} {V : List α → α → Prop} {S : List α → World → Prop} (hS : ∀ s W W', S s W → Turns (fun b => b = w.heap.size) W W' → S s W') (hP : ∀ b, P b → b ≠ w.heap.size)
    (hit : ∀ W1, Below w.heap.size w W1 → W1.heap.size = w.heap.size + 1 → Gives gf lb enc P Rd V S W1 w.heap.size kk)
    (I : List α → World → Prop) (Ix : World → Prop) (hI : ∀ s W W', I s W → Turns (fun b => P b ∨ b = w.heap.size) W W' → I s W') (hIx : ∀ W W', Ix W → Turns (fun b => b = w.heap.size) W W' → Ix W')
    (hRd : ∀ s W, I s W → Rd W) (h0 : I [] w)
    (hround : ∀ (s : List α) (x : α) (W : World) (K : Act → World → Prop), V s x → (∀ a', (∀ Wb, I s Wb → w.heap.size + 1 + kk ≤ Wb.heap.size → body.wpIn (Fence.wide.inRound w.heap.size) 0 Try.prog (itPostX ex (fun b => P b ∨ b = w.heap.size) I Ix (s ++ [x]) Wb) a' Wb) → K a' W) →
      assign.wpIn (Fence.wide.inRound w.heap.size) 0 Try.prog (Exit.then K (fun _ _ _ => False)) { tmps := (ps.zip (enc x)).foldl (fun t (p, v) => t.setIfInBounds p v) a.tmps, defers := [] } W)
    (hdone : ∀ (s : List α) (W : World), I s W → S s W → Q .normal a W)
    (hstop : ∀ (W : World), Ix W → (Code.exit ex).wpIn (Fence.wide.inRound l₀) n Try.prog Q a W) :
    (Code.rangeFunc g ps assign body).wpIn (Fence.wide.inRound l₀) n Try.prog Q a w := by
  refine wpIn_rangeFunc ?_
  intro fn hfn
  rw [show (Fence.wide.inRound l₀).round = some l₀ from rfl]
  generalize hL : w.heap.size = L at *
  generalize hR : (fun (st : LoopState) (pe : Option Code) => ({ state := st, pending := pe, fn := fn, tmps := a.tmps, params := ps, assign := assign, body := body, defers := r₀.defers } : Loop)) = R
  generalize hW : w.alloc (.loop (R .ready none)) = W1
  have kL : W1.heap[L]? = some (.loop (R .ready none)) := by
    rw [← hW, ← hL]; exact World.alloc_heap_new w _
  have hBe : Below L w W1 := by rw [← hW, ← hL]; exact (Below.refl _ w).alloc (Nat.le_refl _) _
  have hsz : W1.heap.size = L + 1 := by rw [← hW, ← hL]; simp
  have kI : I [] W1 := by rw [← hW]; exact hI _ _ _ h0 (Turns.alloc _ _ _)
  refine ⟨L, [], W1, { target := .fn (.func gf) lb, args := #[.func (.yield L) #[] #[]] }, W1, gf, #[.func (.yield L) #[] #[]] ++ lb, W1, ?_, ?_, ?_, ?_, fun h => by simp [Fence.wide, Fence.inRound] at h, ?_⟩
  · rw [← hL, ← hW, ← hR]; exact run_enterLoop_inner hl₀ _ _ _ _ _
  · simp only [resolve, hg]
    simp [go_sem]
  · intro f' hf'; trivial
  · simp [invoke, go_sem, henter]
  · have hend : ∀ (W2 : World) (st : LoopState) (pe : Option Code), st ≠ .busy → W2.heap[L]? = some (.loop (R st pe)) → (Instr.endLoop L).run Try.prog W2 = .ok pe (W2.putObj L (.loop { R st pe with state := .exhausted })) := by
      intro W2 st pe hs hl
      have := run_endLoop (P := Try.prog) hl (by rw [← hR]; exact hs)
      rw [this, ← hR]
    refine (CallsIn.inRound l₀ (callsIn_any (hit W1 hBe hsz (fun s W => I s W ∧ W.heap[L]? = some (.loop (R .ready none)))
      (fun W => Ix W ∧ W.heap[L]? = some (.loop (R .done (some (.exit ex))))) ?tu ?si ?rd ?yield ⟨kI, kL⟩))).mono ?_
    case tu =>
      rintro s W W' ⟨hi, hl⟩ ht
      exact ⟨hI s W W' hi (ht.mono fun b hb => .inl hb), (ht.block L (Array.getElem?_eq_some_iff.1 hl).1 (fun h => hP L h rfl)).trans hl⟩
    case si =>
      rintro s W ⟨hi, hl⟩
      have := (Array.getElem?_eq_some_iff.1 hl).1
      omega
    case rd => exact fun s W h => hRd s W h.1
    case yield =>
      rintro s x W ⟨hi, hl⟩ hv hge
      have hlt : L < W.heap.size := (Array.getElem?_eq_some_iff.1 hl).1
      have hy := run_yield (P := Try.prog) (args := enc x) hl (by rw [← hR]; exact hps x)
      rw [← hR] at hy
      refine ⟨fn, _, assign, body, hy, roundIn_of_wpIn hfn (hround s x W _ hv fun a' hbody => ⟨_, run_beginRound hl (by rw [← hR]), ?_⟩)⟩
      generalize hB2 : W.putObj L (.loop { R .ready none with state := .busy }) = Wb
      have bl : Wb.heap[L]? = some (.loop { R .ready none with state := .busy }) := by rw [← hB2]; exact World.putObj_heap_same (by omega)
      have bk : ∀ b, P b → Wb.heap[b]? = W.heap[b]? := fun b hb => by rw [← hB2]; exact World.putObj_heap_other (hP b hb)
      have bs : Wb.heap.size = W.heap.size := by rw [← hB2]; simp [World.putObj]
      have bi : I s Wb := by rw [← hB2]; exact hI s _ _ hi (Turns.putObj _ _ _ (.inr rfl))
      refine wpIn_mono (hbody Wb bi (by omega)) ?_
      intro e a3 W3 hp
      cases e with
      | normal =>
        obtain ⟨ko, kx, ki⟩ := hp
        have l3 := (kx L (.inr rfl)).trans bl
        refine ⟨_, _, run_endRound (P := Try.prog) none l3, .inl ⟨rfl, ⟨hI _ W3 _ ki (Turns.putObj _ _ _ (.inr rfl)), ?_⟩, ?_, fun b hb => ?_⟩⟩
        · rw [World.putObj_heap_same (Array.getElem?_eq_some_iff.1 l3).1]; rw [← hR]; rfl
        · simp only [World.putObj, Array.size_setIfInBounds]; omega
        · exact (World.putObj_heap_other (hP b hb)).trans ((kx b (.inl hb)).trans (bk b hb))
      | exit id =>
        obtain ⟨rfl, ko, kx, ki⟩ := hp
        have l3 := (kx L (.inr rfl)).trans bl
        refine ⟨_, _, run_endRound (P := Try.prog) (some (.exit id)) l3, .inr ⟨rfl, hIx W3 _ ki (Turns.putObj _ _ _ rfl), ?_⟩⟩
        rw [World.putObj_heap_same (Array.getElem?_eq_some_iff.1 l3).1]; rw [← hR]; rfl
      | ret => exact hp.elim
      | goto t => exact hp.elim
      | panic ch => exact hp.elim
      | outgrown => exact hp.elim
    · rintro e W2 ⟨⟨v, rfl⟩, ⟨s, hSs, hi, hl⟩ | ⟨hi, hl⟩⟩
      · exact ⟨none, _, hend W2 .ready none (by simp) hl, hdone s _ (hI s W2 _ hi (Turns.putObj _ _ _ (.inr rfl))) (hS s W2 _ hSs (Turns.putObj _ _ _ rfl))⟩
      · exact ⟨some (.exit ex), _, hend W2 .done (some (.exit ex)) (by simp) hl, hstop _ (hIx W2 _ hi (Turns.putObj _ _ _ rfl))⟩

end Go.Proofs.Ytonoeodlchkiaaa
