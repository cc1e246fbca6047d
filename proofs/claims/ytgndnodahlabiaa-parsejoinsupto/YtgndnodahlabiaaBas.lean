/-
  Blocks that turn (layer 9); a range over a function of the program's own.
-/
import Derived.Test.YtgndnodahlabiaaChecked
import Derived.RangeFuncNested
import Derived.RangeFuncBound
import Derived.RangeFuncCalls
import Derived.RangeFuncLeaves
import Derived.RangeFuncBox
import Derived.Shelf.Abstract
import Derived.Shelf.RegionOpen
import Derived.WalkKit
import Derived.ProofKit
import Derived.OpenShut
import Derived.Deep.RegionWith
import Derived.Deep.QuietTactic
import Derived.BigQuiet
import Derived.OwnWalkIn
import Derived.TacticsInMore
import Derived.LoopNIn
import Derived.LoopIn
namespace Go.Proofs.Ytgndnodahlabiaa
open Go.ChangeShapes Go.WideShapes Go.ChangeAt Go.RowKit Go.Shelf

attribute [local go_sem] Oper.semAt_some

/-- Other blocks than those of Q lie as they lay. -/
structure Turns (Q : Nat → Prop) (W W' : World) : Prop where
  os : W'.os = W.os
  tape : W'.tape = W.tape
  output : W'.output = W.output
  size : W.heap.size ≤ W'.heap.size
  block : ∀ b, b < W.heap.size → ¬ Q b → W'.heap[b]? = W.heap[b]?
theorem Turns.refl (Q : Nat → Prop) (W : World) : Turns Q W W := ⟨rfl, rfl, rfl, Nat.le_refl _, fun _ _ _ => rfl⟩
theorem Turns.trans {Q : Nat → Prop} {A B C : World} (h : Turns Q A B) (k : Turns Q B C) : Turns Q A C :=
  ⟨k.os.trans h.os, k.tape.trans h.tape, k.output.trans h.output, Nat.le_trans h.size k.size, fun b hb hq => (k.block b (Nat.lt_of_lt_of_le hb h.size) hq).trans (h.block b hb hq)⟩
theorem Turns.mono {Q Q' : Nat → Prop} {A B : World} (h : Turns Q A B) (hq : ∀ b, Q b → Q' b) : Turns Q' A B := ⟨h.os, h.tape, h.output, h.size, fun b hb hn => h.block b hb (fun h' => hn (hq b h'))⟩
theorem Turns.of_below {B : Nat} {A C : World} (h : Below B A C) : Turns (fun b => B ≤ b) A C := ⟨h.os, h.tape, h.output, h.size, fun b _ hn => h.block b (by omega)⟩
theorem Turns.below {Q : Nat → Prop} {A C w : World} {B : Nat} (h : Below B w A) (hB : B ≤ A.heap.size) (k : Turns Q A C) (hq : ∀ b, b < B → ¬ Q b) : Below B w C :=
  h.trans ⟨k.os, k.tape, k.output, k.size, fun b hb => k.block b (by omega) (hq b hb)⟩
theorem Turns.alloc (Q : Nat → Prop) (W : World) (o : Obj) : Turns Q W (W.alloc o) :=
  have h := (Below.refl W.heap.size W).alloc (Nat.le_refl _) o
  ⟨h.os, h.tape, h.output, h.size, fun b hb _ => h.block b hb⟩
theorem Turns.setCell {Q : Nat → Prop} (W : World) (p : Addr) (v : Value) (h : Q p.block) : Turns Q W (W.setCell p v) :=
  have k := (Below.refl 0 W).setCell (p := p) (Nat.zero_le _) v
  ⟨k.os, k.tape, k.output, k.size, fun b _ hn => Below.heap_setCell W p v b (fun e => hn (e ▸ h))⟩
theorem Turns.putObj {Q : Nat → Prop} (W : World) (r : Nat) (o : Obj) (h : Q r) : Turns Q W (W.putObj r o) :=
  ⟨rfl, rfl, rfl, by simp [World.putObj], fun b _ hn => World.putObj_heap_other (fun e => hn (e ▸ h))⟩

/-- How the body of a round may be left. -/
def itPost {α : Type} (P : Nat → Prop) (I : List α → World → Prop) (Ix : World → Prop) (s : List α) (W : World) : Exit → Act → World → Prop
  | .normal, _, W' => W.heap.size ≤ W'.heap.size ∧ (∀ b, P b → W'.heap[b]? = W.heap[b]?) ∧ I s W'
  | .ret, _, W' => W.heap.size ≤ W'.heap.size ∧ (∀ b, P b → W'.heap[b]? = W.heap[b]?) ∧ Ix W'
  | _, _, _ => False

/-- What an iterator owes: it yields what V lets it, keeps what its caller holds, and ends behind a row of S. -/
def Gives {α : Type} (gf : Nat) (lb : Array Value) (enc : α → Array Value) (P : Nat → Prop) (Rd : World → Prop) (V : List α → α → Prop) (S : List α → World → Prop) (W1 : World) (L k : Nat) : Prop :=
  ∀ (J : List α → World → Prop) (Jx : World → Prop), (∀ s W W', J s W → Turns P W W' → J s W') → (∀ s W, J s W → W1.heap.size ≤ W.heap.size) → (∀ s W, J s W → Rd W) →
    (∀ s x W, J s W → V s x → W1.heap.size + k ≤ W.heap.size → YieldAt Fence.wide 0 Try.prog L (enc x) W fun e W' => (e = .returned (.bool true) ∧ J (s ++ [x]) W' ∧ W.heap.size ≤ W'.heap.size ∧ ∀ b, P b → W'.heap[b]? = W.heap[b]?) ∨ (e = .returned (.bool false) ∧ Jx W')) →
    J [] W1 → CallsIn Fence.wide 0 Try.prog gf (#[.func (.yield L) #[] #[]] ++ lb) W1 fun e W' => (∃ v, e = .returned v) ∧ ((∃ s, S s W' ∧ J s W') ∨ Jx W')

theorem callsIn_any {n m : Nat} {f : FuncId} {args : Array Value} {w : World} {R : Ending → World → Prop} (h : CallsIn Fence.wide n Try.prog f args w R) : CallsIn Fence.wide m Try.prog f args w R := callsIn_wide.2 (callsIn_wide.1 h)

theorem range_it {α : Type} {n kk : Nat} {g : Operand} {ps : Array Tmp} {assign body : Code} {Q : Exit → Act → World → Prop} {a : Act} {w : World} {gf : Nat} {lb : Array Value}
    (hg : a.eval g = .func (.func gf) #[] lb) (henter : ∀ args w, (callFunc gf args).run Try.prog w = .ok (.enter gf args) w) {enc : α → Array Value} (hps : ∀ x, (enc x).size = ps.size)
    {P : Nat → Prop} {Rd : World → Prop} {V : List α → α → Prop} {S : List α → World → Prop} (hS : ∀ s W W', S s W → Turns (fun b => b = w.heap.size + 1) W W' → S s W') (hP : ∀ b, P b → b ≠ w.heap.size ∧ b ≠ w.heap.size + 1)
    (hit : ∀ W1, Below w.heap.size w W1 → W1.heap.size = w.heap.size + 2 → Gives gf lb enc P Rd V S W1 (w.heap.size + 1) kk)
    (I : List α → World → Prop) (Ix : World → Prop) (hI : ∀ s W W', I s W → Turns (fun b => P b ∨ b = w.heap.size + 1) W W' → I s W') (hIx : ∀ W W', Ix W → Turns (fun b => b = w.heap.size + 1) W W' → Ix W')
    (hRd : ∀ s W, I s W → Rd W) (h0 : I [] w)
    (hround : ∀ (l : Nat) (s : List α) (x : α) (W : World) (K : Act → World → Prop), V s x → (∀ a', (∀ Wb, I s Wb → w.heap.size + 2 + kk ≤ Wb.heap.size → body.wpIn (Fence.wide.inRound l) 0 Try.prog (itPost (fun b => P b ∨ b = w.heap.size ∨ b = w.heap.size + 1) I Ix (s ++ [x]) Wb) a' Wb) → K a' W) →
      assign.wpIn (Fence.wide.inRound l) 0 Try.prog (Exit.then K (fun _ _ _ => False)) { tmps := (ps.zip (enc x)).foldl (fun t (p, v) => t.setIfInBounds p v) a.tmps, defers := [] } W)
    (hdone : ∀ (D : Nat) (s : List α) (W : World), I s W → S s W → D = w.heap.size → W.heap[D]? = some (.deferred (some [])) → Q .normal { a with defers := { target := .collected D, args := #[] } :: a.defers } W)
    (hstop : ∀ (D : Nat) (W : World), Ix W → D = w.heap.size → W.heap[D]? = some (.deferred (some [])) → Code.ret.wpIn Fence.wide n Try.prog Q { a with defers := { target := .collected D, args := #[] } :: a.defers } W) :
    (Code.rangeFunc g ps assign body).wpIn Fence.wide n Try.prog Q a w := by
  refine wpIn_rangeFunc ?_
  intro fn hfn
  rw [show Fence.wide.round = none from rfl]
  generalize hL : w.heap.size + 1 = L at *
  generalize hD : w.heap.size = D at *
  generalize hR : (fun (st : LoopState) (pe : Option Code) => ({ state := st, pending := pe, fn := fn, tmps := a.tmps, params := ps, assign := assign, body := body, defers := D } : Loop)) = R
  generalize hW : (w.alloc (.deferred (some []))).alloc (.loop (R .ready none)) = W1
  have kL : W1.heap[L]? = some (.loop (R .ready none)) := by
    rw [← hW, ← hL, ← hD]; have := World.alloc_heap_new (w.alloc (.deferred (some []))) (.loop (R .ready none)); rwa [World.size_alloc] at this
  have kD : W1.heap[D]? = some (.deferred (some [])) := by
    rw [← hW, ← hD]; exact (Below.heap_alloc _ _ _ (by simp)).trans (World.alloc_heap_new w _)
  have hBe : Below D w W1 := by rw [← hW, ← hD]; exact ((Below.refl _ w).alloc (Nat.le_refl _) _).alloc (by simp) _
  have hsz : W1.heap.size = D + 2 := by rw [← hW, ← hD]; simp
  have kI : I [] W1 := by rw [← hW]; exact hI _ _ _ (hI _ _ _ h0 (Turns.alloc _ _ _)) (Turns.alloc _ _ _)
  have nDL : D ≠ L := by omega
  refine ⟨L, [{ target := .collected D, args := #[] }], W1, { target := .fn (.func gf) lb, args := #[.func (.yield L) #[] #[]] }, W1, gf, #[.func (.yield L) #[] #[]] ++ lb, W1, ?_, ?_, ?_, ?_, fun h => by simp [Fence.wide] at h, ?_⟩
  · rw [← hL, ← hW, ← hR, ← hD]; exact run_enterLoop_outer _ _ _ _ _
  · simp only [resolve, hg]
    simp [go_sem]
  · intro f' hf'; trivial
  · simp [invoke, go_sem, henter]
  · have hend : ∀ (W2 : World) (st : LoopState) (pe : Option Code), st ≠ .busy → W2.heap[L]? = some (.loop (R st pe)) → (Instr.endLoop L).run Try.prog W2 = .ok pe (W2.putObj L (.loop { R st pe with state := .exhausted })) := by
      intro W2 st pe hs hl
      have := run_endLoop (P := Try.prog) hl (by rw [← hR]; exact hs)
      rw [this, ← hR]
    refine (callsIn_any (hit W1 hBe hsz (fun s W => I s W ∧ W.heap[L]? = some (.loop (R .ready none)) ∧ W.heap[D]? = some (.deferred (some [])))
      (fun W => Ix W ∧ W.heap[L]? = some (.loop (R .done (some .ret))) ∧ W.heap[D]? = some (.deferred (some []))) ?tu ?si ?rd ?yield ⟨kI, kL, kD⟩)).mono ?_
    case tu =>
      rintro s W W' ⟨hi, hl, hd⟩ ht
      exact ⟨hI s W W' hi (ht.mono fun b hb => .inl hb), (ht.block L (Array.getElem?_eq_some_iff.1 hl).1 (fun h => (hP L h).2 rfl)).trans hl, (ht.block D (Array.getElem?_eq_some_iff.1 hd).1 (fun h => (hP D h).1 rfl)).trans hd⟩
    case si =>
      rintro s W ⟨hi, hl, _⟩
      have := (Array.getElem?_eq_some_iff.1 hl).1
      omega
    case rd => exact fun s W h => hRd s W h.1
    case yield =>
      rintro s x W ⟨hi, hl, hd⟩ hv hge
      have hlt : L < W.heap.size := (Array.getElem?_eq_some_iff.1 hl).1
      have hy := run_yield (P := Try.prog) (args := enc x) hl (by rw [← hR]; exact hps x)
      rw [← hR] at hy
      refine ⟨fn, _, assign, body, hy, roundIn_of_wpIn hfn (hround _ s x W _ hv fun a' hbody => ⟨_, run_beginRound hl (by rw [← hR]), ?_⟩)⟩
      generalize hB2 : W.putObj L (.loop { R .ready none with state := .busy }) = Wb
      have bl : Wb.heap[L]? = some (.loop { R .ready none with state := .busy }) := by rw [← hB2]; exact World.putObj_heap_same (by omega)
      have bd : Wb.heap[D]? = some (.deferred (some [])) := by rw [← hB2]; exact (World.putObj_heap_other nDL).trans hd
      have bk : ∀ b, P b → Wb.heap[b]? = W.heap[b]? := fun b hb => by rw [← hB2]; exact World.putObj_heap_other (hP b hb).2
      have bs : Wb.heap.size = W.heap.size := by rw [← hB2]; simp [World.putObj]
      have bi : I s Wb := by rw [← hB2]; exact hI s _ _ hi (Turns.putObj _ _ _ (.inr rfl))
      refine wpIn_mono (hbody Wb bi (by omega)) ?_
      intro e a3 W3 hp
      cases e with
      | normal =>
        obtain ⟨ko, kx, ki⟩ := hp
        have l3 := (kx L (.inr (.inr rfl))).trans bl
        have d3 := (kx D (.inr (.inl rfl))).trans bd
        refine ⟨_, _, run_endRound (P := Try.prog) none l3, .inl ⟨rfl, ⟨hI _ W3 _ ki (Turns.putObj _ _ _ (.inr rfl)), ?_, (World.putObj_heap_other nDL).trans d3⟩, ?_, fun b hb => ?_⟩⟩
        · rw [World.putObj_heap_same (Array.getElem?_eq_some_iff.1 l3).1]; rw [← hR]; rfl
        · simp only [World.putObj, Array.size_setIfInBounds]; omega
        · exact (World.putObj_heap_other (hP b hb).2).trans ((kx b (.inl hb)).trans (bk b hb))
      | ret =>
        obtain ⟨ko, kx, ki⟩ := hp
        have l3 := (kx L (.inr (.inr rfl))).trans bl
        have d3 := (kx D (.inr (.inl rfl))).trans bd
        refine ⟨_, _, run_endRound (P := Try.prog) (some .ret) l3, .inr ⟨rfl, hIx W3 _ ki (Turns.putObj _ _ _ rfl), ?_, (World.putObj_heap_other nDL).trans d3⟩⟩
        rw [World.putObj_heap_same (Array.getElem?_eq_some_iff.1 l3).1]; rw [← hR]; rfl
      | exit id => exact hp.elim
      | goto t => exact hp.elim
      | panic ch => exact hp.elim
      | outgrown => exact hp.elim
    · rintro e W2 ⟨⟨v, rfl⟩, ⟨s, hSs, hi, hl, hd⟩ | ⟨hi, hl, hd⟩⟩
      · exact ⟨none, _, hend W2 .ready none (by simp) hl, hdone D s _ (hI s W2 _ hi (Turns.putObj _ _ _ (.inr rfl))) (hS s W2 _ hSs (Turns.putObj _ _ _ rfl)) rfl ((World.putObj_heap_other nDL).trans hd)⟩
      · exact ⟨some .ret, _, hend W2 .done (some .ret) (by simp) hl, hstop D _ (hIx W2 _ hi (Turns.putObj _ _ _ rfl)) rfl ((World.putObj_heap_other nDL).trans hd)⟩

theorem hide {p : Prop} (h : p) : Hid p := h
theorem cell_of {W : World} {B : Nat} {cs : Array Value} {t : TypeId} (h : W.heap[B]? = some (.cells cs t (0, 0))) (o : Nat) : W.cell? ⟨B, o, none⟩ = cs[o]? := by simp [World.cell?, h]
theorem frozen_of {W : World} {B : Nat} {cs : Array Value} {t : TypeId} (h : W.heap[B]? = some (.cells cs t (0, 0))) (o : Nat) : W.frozen? ⟨B, o, none⟩ = false := by simp [World.frozen?, h]
theorem lt_of {W : World} {B : Nat} {o : Obj} (h : W.heap[B]? = some o) : B < W.heap.size := (Array.getElem?_eq_some_iff.1 h).1
theorem bel_new (w : World) (o : Obj) : Below w.heap.size w (w.alloc o) := (Below.refl _ w).alloc (Nat.le_refl _) _
theorem bel_two {a b c : World} (h1 : Below a.heap.size a b) (h2 : Below b.heap.size b c) : Below a.heap.size a c := h1.trans (h2.mono h1.size)
theorem bel_q {a : World} {w' : World} (h : ∃ q, w' = a.drewN q) : Below a.heap.size a w' := by
  obtain ⟨q, rfl⟩ := h
  have k := Below.refl a.heap.size a
  exact ⟨k.os, k.tape, k.output, k.size, k.block⟩

end Go.Proofs.Ytgndnodahlabiaa
