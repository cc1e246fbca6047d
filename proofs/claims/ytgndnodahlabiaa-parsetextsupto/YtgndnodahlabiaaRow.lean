/-
  Rows of tokens in memory (layer 9); a range over a function whose variable is boxed; drawn regions within a round.
-/
import Derived.Test.YtgndnodahlabiaaItr
import Derived.RegionIn
import Derived.Deep.RegionLaw
import Derived.Laws.OwnMore
import Derived.Deep.AppendLies
import Derived.Deep.AppendSrc
import Derived.Deep.MidRow
namespace Go.Proofs.Ytgndnodahlabiaa
open Go.ChangeShapes Go.WideShapes Go.ChangeAt Go.RowKit Go.Shelf

attribute [local go_sem] Oper.semAt_some

theorem owns_below {w w' : World} {base : Nat} {e : TypeId} {size : Nat} {v : Value} {n : Nat} {xs : List Value} (h : w.ownsRow base e size v n xs) (hb : Below w.heap.size w w') : w'.ownsRow base e size v n xs :=
  h.kept (row := none) ⟨hb.os, hb.tape, hb.output, hb.size, fun k hk _ => hb.block k hk⟩ (by cases v.ownBlock <;> simp)
theorem owns_shape {w : World} {base : Nat} {e : TypeId} {size : Nat} {v : Value} {n : Nat} {xs : List Value} (h : w.ownsRow base e size v n xs) : ∃ av cap, v = .slice av n cap ∧ n ≤ cap := by
  rcases h.2 with ⟨rfl, rfl⟩ | ⟨g, cap, cur, rfl, _, _, h1, _, _⟩
  · exact ⟨none, 0, rfl, Nat.le_refl _⟩
  · exact ⟨_, cap, rfl, h1⟩
/-- A row stays where other blocks turn. -/
theorem owns_turns {w w' : World} {Q : Nat → Prop} {base : Nat} {e : TypeId} {size : Nat} {v : Value} {n : Nat} {xs : List Value} (h : w.ownsRow base e size v n xs) (ht : Turns Q w w') (hq : ∀ b, v.ownBlock = some b → ¬ Q b) : w'.ownsRow base e size v n xs := by
  refine ⟨h.1, ?_⟩
  rcases h.2 with h2 | ⟨g, cap, cur, rfl, h3, h4, h5⟩
  · exact .inl h2
  · exact .inr ⟨g, cap, cur, rfl, h3, (ht.block g (lt_of h4) (hq g rfl)).trans h4, h5⟩
theorem wpList_append_run {P : Program} {ops : Array Oper} {rest : List Oper} {o : Oper} {a : Act} {Q : Exit → Act → World → Prop} {w w' : World} (hg : o.guard = none) (s x : Operand) (t : TypeId)
    (hop : o.op = Op.call { callee := Callee.builtin Builtin.append, args := #[s, x], argTypes := #[t, t] }) {v y r : Value} (hs : a.eval s = v) (hx : a.eval x = y) (hr : (Builtin.append_ #[t, t] o.type #[v, y]).run P w = .ok r w')
    (h : wpList P ops Q rest (a.put o.dst r) w') : wpList P ops Q (o :: rest) a w := by
  refine wpList_plain hg fun K hK' => ?_
  unfold Oper.wp
  simp [execOp, hop, resolve, invoke, builtin, hs, hx, hr, Result.andThen]
  exact hK' _ _ h
theorem wpListIn_append_run {F : Fence} {n : Nat} {P : Program} {ops : Array Oper} {rest : List Oper} {o : Oper} {a : Act} {Q : Exit → Act → World → Prop} {w w' : World} (hg : o.guard = none) (s x : Operand) (t : TypeId)
    (hop : o.op = Op.call { callee := Callee.builtin Builtin.append, args := #[s, x], argTypes := #[t, t] }) {v y r : Value} (hs : a.eval s = v) (hx : a.eval x = y) (hr : (Builtin.append_ #[t, t] o.type #[v, y]).run P w = .ok r w')
    (h : wpListIn F n P ops Q rest (a.put o.dst r) w') : wpListIn F n P ops Q (o :: rest) a w := by
  refine wpListIn_plain hg fun K hK' => ?_
  unfold Oper.wpIn
  refine ⟨?_, ?_⟩
  · simp [Oper.about, hop, resolve, Target.leads, Sem.run_pure]
  · rw [Oper.semAt_plain F _ _ (by rw [hop]; intro c hc'; cases hc')]
    simp [execOp, hop, resolve, invoke, builtin, hs, hx, hr, Result.andThen]
    exact hK' _ _ h

theorem operIn_round {P : Program} {o : Oper} {a : Act} {w : World} {K : Act → World → Prop} {Q : Exit → Act → World → Prop} {n : Nat} (l : Nat) (hnd : ∀ c, o.op ≠ .defer c) (h : o.wpIn Fence.wide n P a w K Q) : o.wpIn (Fence.wide.inRound l) n P a w K Q := by
  refine ⟨h.1, ?_⟩
  have h2 := h.2
  rw [Fence.inRound_round, Oper.semAt_some l _ _ hnd]
  exact h2
theorem anyIn_round {P : Program} {ops : Array Oper} {Q : Exit → Act → World → Prop} {md : Region.Mode} {n : Nat} (l : Nat) (hnd : ∀ (i : Nat) (o : Oper), ops[i]? = some o → ∀ c, o.op ≠ .defer c) : ∀ (fuel : Nat) (listed : Array Bool) (a : Act) (w : World), wpAnyIn Fence.wide n P md ops Q fuel listed a w → wpAnyIn (Fence.wide.inRound l) n P md ops Q fuel listed a w
  | 0, _, _, _, h => h
  | fuel + 1, listed, a, w, h => by
    refine ⟨h.1, fun i hi => ?_⟩
    have h2 := wpOpIn_mono (fun a w hk => anyIn_round l hnd fuel _ a w hk) (h.2 i hi)
    unfold wpOpIn at h2 ⊢
    cases ho : ops[i]? with
    | none => rw [ho] at h2; exact h2
    | some o =>
      rw [ho] at h2
      simp only at h2 ⊢
      split
      · rename_i hw; rw [if_pos hw] at h2; exact operIn_round l (hnd i o ho) h2
      · rename_i hw; rw [if_neg hw] at h2; exact h2
/-- No operation puts a call off. -/
def noDefer (ops : Array Oper) : Bool := ops.all fun o => match o.op with | .defer _ => false | _ => true
theorem noDefer_spec {ops : Array Oper} (h : noDefer ops = true) : ∀ (i : Nat) (o : Oper), ops[i]? = some o → ∀ c, o.op ≠ .defer c := by
  intro i o ho c e
  have hm : o ∈ ops := Array.mem_of_getElem? ho
  have := (Array.all_eq_true_iff_forall_mem.1 h) o hm
  rw [e] at this; cases this
theorem region_round {P : Program} {ops : Array Oper} {Q : Exit → Act → World → Prop} {n : Nat} {l id : Nat} {a : Act} {w : World} (hm : P.follows .mixedOrders = true) (hd : noDefer ops = true)
    (h : wpAnyIn Fence.wide n P .any ops Q ops.size (Array.replicate ops.size false) a w.drew) : (Code.region id ops true).wpIn (Fence.wide.inRound l) n P Q a w :=
  wpIn_region_any hm (anyIn_round l (noDefer_spec hd) _ _ _ _ h)


/-- A range over a function whose variable is laid in a box of its own. -/
theorem range_box {α : Type} {n kk : Nat} {g : Operand} {ps : Array Tmp} {assign body : Code} {Q : Exit → Act → World → Prop} {a : Act} {w : World} {gf : Nat} {lb : Array Value}
    (hg : a.eval g = .func (.func gf) #[] lb) (henter : ∀ args w, (callFunc gf args).run Try.prog w = .ok (.enter gf args) w) {enc : α → Array Value} (hps : ∀ x, (enc x).size = ps.size)
    {Rd : World → Prop} {V : List α → α → Prop} {S : List α → World → Prop} (hS : ∀ s W W', S s W → Turns (fun b => b = w.heap.size + 1) W W' → S s W')
    (hit : ∀ W1, Below w.heap.size w W1 → W1.heap.size = w.heap.size + 2 → Gives gf lb enc (fun _ => False) Rd V S W1 (w.heap.size + 1) kk)
    (I : List α → World → Prop) (Ix : World → Prop) (hI : ∀ s W W', I s W → Turns (fun b => b = w.heap.size + 1) W W' → I s W') (hIx : ∀ W W', Ix W → Turns (fun b => b = w.heap.size + 1) W W' → Ix W')
    (hRd : ∀ s W, I s W → Rd W) (h0 : I [] w)
    (hround : ∀ (l : Nat) (s : List α) (x : α) (W : World) (K : Act → World → Prop), V s x → (∀ a' o, (∀ Wb, I s Wb → Wb.heap[W.heap.size]? = some o → Wb.heap.size = W.heap.size + 1 → w.heap.size + 2 + kk ≤ W.heap.size → body.wpIn (Fence.wide.inRound l) 0 Try.prog (itPost (fun b => b = w.heap.size ∨ b = w.heap.size + 1) I Ix (s ++ [x]) Wb) a' Wb) → K a' (W.alloc o)) →
      assign.wpIn (Fence.wide.inRound l) 0 Try.prog (Exit.then K (fun _ _ _ => False)) { tmps := (ps.zip (enc x)).foldl (fun t (p, v) => t.setIfInBounds p v) a.tmps, defers := [] } W)
    (hdone : ∀ (D : Nat) (s : List α) (W : World), I s W → S s W → D = w.heap.size → W.heap[D]? = some (.deferred (some [])) → Q .normal { a with defers := { target := .collected D, args := #[] } :: a.defers } W)
    (hstop : ∀ (D : Nat) (W : World), Ix W → D = w.heap.size → W.heap[D]? = some (.deferred (some [])) → Code.ret.wpIn Fence.wide n Try.prog Q { a with defers := { target := .collected D, args := #[] } :: a.defers } W) :
    (Code.rangeFunc g ps assign body).wpIn Fence.wide n Try.prog Q a w := by
  refine wpIn_rangeFunc ?_
  intro fn hfn
  rw [show Fence.wide.round = none from rfl]
  generalize hL : w.heap.size + 1 = L at *
  generalize hD : w.heap.size = D at *
  generalize hR : (fun (st : LoopState) (pe : Option Code) => ({ state := st, pending := pe, fn := fn, tmps := a.tmps, params := ps, assign := assign, body := body, defers := D } : Loop)) = R
  generalize hW : (w.alloc (.deferred (some []))).alloc (.loop (R .ready none)) = W1
  have kL : W1.heap[L]? = some (.loop (R .ready none)) := by
    rw [← hW, ← hL, ← hD]; have := World.alloc_heap_new (w.alloc (.deferred (some []))) (.loop (R .ready none)); rwa [World.size_alloc] at this
  have kD : W1.heap[D]? = some (.deferred (some [])) := by
    rw [← hW, ← hD]; exact (Below.heap_alloc _ _ _ (by simp)).trans (World.alloc_heap_new w _)
  have hBe : Below D w W1 := by rw [← hW, ← hD]; exact ((Below.refl _ w).alloc (Nat.le_refl _) _).alloc (by simp) _
  have hsz : W1.heap.size = D + 2 := by rw [← hW, ← hD]; simp
  have kI : I [] W1 := by rw [← hW]; exact hI _ _ _ (hI _ _ _ h0 (Turns.alloc _ _ _)) (Turns.alloc _ _ _)
  have nDL : D ≠ L := by omega
  refine ⟨L, [{ target := .collected D, args := #[] }], W1, { target := .fn (.func gf) lb, args := #[.func (.yield L) #[] #[]] }, W1, gf, #[.func (.yield L) #[] #[]] ++ lb, W1, ?_, ?_, ?_, ?_, fun h => by simp [Fence.wide] at h, ?_⟩
  · rw [← hL, ← hW, ← hR, ← hD]; exact run_enterLoop_outer _ _ _ _ _
  · simp only [resolve, hg]
    simp [go_sem]
  · intro f' hf'; trivial
  · simp [invoke, go_sem, henter]
  · have hend : ∀ (W2 : World) (st : LoopState) (pe : Option Code), st ≠ .busy → W2.heap[L]? = some (.loop (R st pe)) → (Instr.endLoop L).run Try.prog W2 = .ok pe (W2.putObj L (.loop { R st pe with state := .exhausted })) := by
      intro W2 st pe hs hl
      have := run_endLoop (P := Try.prog) hl (by rw [← hR]; exact hs)
      rw [this, ← hR]
    refine (callsIn_any (hit W1 hBe hsz (fun s W => I s W ∧ W.heap[L]? = some (.loop (R .ready none)) ∧ W.heap[D]? = some (.deferred (some [])))
      (fun W => Ix W ∧ W.heap[L]? = some (.loop (R .done (some .ret))) ∧ W.heap[D]? = some (.deferred (some []))) ?tu ?si ?rd ?yield ⟨kI, kL, kD⟩)).mono ?_
    case tu =>
      rintro s W W' ⟨hi, hl, hd⟩ ht
      have ht2 : Turns (fun b => b = L) W W' := ht.mono fun b hb => hb.elim
      exact ⟨hI s W W' hi ht2, (ht.block L (Array.getElem?_eq_some_iff.1 hl).1 (fun h => h)).trans hl, (ht.block D (Array.getElem?_eq_some_iff.1 hd).1 (fun h => h)).trans hd⟩
    case si =>
      rintro s W ⟨hi, hl, _⟩
      have := (Array.getElem?_eq_some_iff.1 hl).1
      omega
    case rd => exact fun s W h => hRd s W h.1
    case yield =>
      rintro s x W ⟨hi, hl, hd⟩ hv hge
      have hlt : L < W.heap.size := (Array.getElem?_eq_some_iff.1 hl).1
      have hy := run_yield (P := Try.prog) (args := enc x) hl (by rw [← hR]; exact hps x)
      rw [← hR] at hy
      refine ⟨fn, _, assign, body, hy, roundIn_of_wpIn hfn (hround L s x W _ hv fun a' ob hbody => ?_)⟩
      have hla : (W.alloc ob).heap[L]? = some (.loop (R .ready none)) := (Below.heap_alloc _ _ _ hlt).trans hl
      have hda : (W.alloc ob).heap[D]? = some (.deferred (some [])) := (Below.heap_alloc _ _ _ (by omega)).trans hd
      have hob : (W.alloc ob).heap[W.heap.size]? = some ob := World.alloc_heap_new W ob
      have hia : I s (W.alloc ob) := hI s _ _ hi (Turns.alloc _ _ _)
      have hsa : (W.alloc ob).heap.size = W.heap.size + 1 := World.size_alloc _ _
      generalize W.alloc ob = Wa at *
      refine ⟨_, run_beginRound hla (by rw [← hR]), ?_⟩
      generalize hB2 : Wa.putObj L (.loop { R .ready none with state := .busy }) = Wb
      have bl : Wb.heap[L]? = some (.loop { R .ready none with state := .busy }) := by rw [← hB2]; exact World.putObj_heap_same (by omega)
      have bd : Wb.heap[D]? = some (.deferred (some [])) := by rw [← hB2]; exact (World.putObj_heap_other nDL).trans hda
      have bz : Wb.heap.size = W.heap.size + 1 := by rw [← hB2]; simp [World.putObj, hsa]
      have bo : Wb.heap[W.heap.size]? = some ob := by rw [← hB2]; exact (World.putObj_heap_other (by omega)).trans hob
      have bi : I s Wb := by rw [← hB2]; exact hI s _ _ hia (Turns.putObj _ _ _ rfl)
      refine wpIn_mono (hbody Wb bi bo bz (by omega)) ?_
      intro e a3 W3 hp
      cases e with
      | normal =>
        obtain ⟨ko, kx, ki⟩ := hp
        have l3 := (kx L (.inr rfl)).trans bl
        have d3 := (kx D (.inl rfl)).trans bd
        refine ⟨_, _, run_endRound (P := Try.prog) none l3, .inl ⟨rfl, ⟨hI _ W3 _ ki (Turns.putObj _ _ _ rfl), ?_, (World.putObj_heap_other nDL).trans d3⟩, ?_, fun b hb => hb.elim⟩⟩
        · rw [World.putObj_heap_same (Array.getElem?_eq_some_iff.1 l3).1]; rw [← hR]; rfl
        · simp only [World.putObj, Array.size_setIfInBounds]; omega
      | ret =>
        obtain ⟨ko, kx, ki⟩ := hp
        have l3 := (kx L (.inr rfl)).trans bl
        have d3 := (kx D (.inl rfl)).trans bd
        refine ⟨_, _, run_endRound (P := Try.prog) (some .ret) l3, .inr ⟨rfl, hIx W3 _ ki (Turns.putObj _ _ _ rfl), ?_, (World.putObj_heap_other nDL).trans d3⟩⟩
        rw [World.putObj_heap_same (Array.getElem?_eq_some_iff.1 l3).1]; rw [← hR]; rfl
      | exit id => exact hp.elim
      | goto t => exact hp.elim
      | panic ch => exact hp.elim
      | outgrown => exact hp.elim
    · rintro e W2 ⟨⟨v, rfl⟩, ⟨s, hSs, hi, hl, hd⟩ | ⟨hi, hl, hd⟩⟩
      · exact ⟨none, _, hend W2 .ready none (by simp) hl, hdone D s _ (hI s W2 _ hi (Turns.putObj _ _ _ rfl)) (hS s W2 _ hSs (Turns.putObj _ _ _ rfl)) rfl ((World.putObj_heap_other nDL).trans hd)⟩
      · exact ⟨some .ret, _, hend W2 .done (some .ret) (by simp) hl, hstop D _ (hIx W2 _ hi (Turns.putObj _ _ _ rfl)) rfl ((World.putObj_heap_other nDL).trans hd)⟩



/-- A token's three cells. -/
abbrev tcells (x : Tok) : List Value := [.int .i64 (x.k : Int), .string (bs x.t), .int .i64 (x.a : Int)]
def tok0 : Tok := ⟨0, [], 0⟩
theorem flat_len (l : List Tok) : (l.flatMap tcells).length = l.length * 3 := by
  induction l with
  | nil => rfl
  | cons x r ih => rw [List.flatMap_cons, List.length_append, ih, List.length_cons]; simp; omega
theorem flat_get : ∀ (l : List Tok) (j f : Nat), j < l.length → f < 3 → (l.flatMap tcells)[j * 3 + f]? = (tcells (l.getD j tok0))[f]?
  | x :: r, 0, f, _, hf => by rw [List.flatMap_cons, List.getElem?_append_left (by simp; omega)]; simp
  | x :: r, j + 1, f, hj, hf => by
    rw [List.flatMap_cons, List.getElem?_append_right (by simp; omega)]
    have := flat_get r j f (by simpa using hj) hf
    rw [show (j + 1) * 3 + f - (tcells x).length = j * 3 + f by simp; omega, this]; simp
set_option maxRecDepth 100000 in
theorem typ30 : ∃ i, Try.prog.info? 41 = some i ∧ i.zero = some (.agg #[.int .i64 0, .string ⟨#[]⟩, .int .i64 0]) ∧ i.bytes = 32 ∧ i.size = 3 := by
  refine ⟨_, rfl, ?_, ?_, ?_⟩ <;> kernel_rfl
/-- One token more. -/
theorem app_tok (w : World) (ty : TypeId) (base : Nat) (v : Value) (n : Nat) (xs : List Value) (hown : w.ownsRow base 41 3 v n xs) (x : Tok) (hbd : n ≤ 10000000) (hbase : base ≤ w.heap.size) :
    ∃ g cap w', (Builtin.append_ #[32, 32] ty #[v, .slice (some ⟨w.heap.size, 0, none⟩) 1 1]).run Try.prog (w.alloc (.cells (tcells x).toArray 41)) = .ok (.slice (some ⟨g, 0, none⟩) (n + 1) cap) w' ∧ w'.ownsRow base 41 3 (.slice (some ⟨g, 0, none⟩) (n + 1) cap) (n + 1) (xs ++ tcells x) ∧ (w.alloc (.cells (tcells x).toArray 41)).grownBy w' v.ownBlock ∧ (v.ownBlock = some g ∨ g = w.heap.size + 1) ∧ g < w'.heap.size := by
  obtain ⟨i, h1, h2, h3, h4⟩ := typ30
  exact run_append_lies (P := Try.prog) (w.alloc (.cells (tcells x).toArray 41)) 32 ty base 41 i _ 3 32 Try.underlying32 h1 h2 h4 h3 rfl (by decide) v n xs (hown.alloc _) ⟨w.heap.size, 0, none⟩ 1 1 (tcells x) rfl
    (fun j u hu => by
      rw [Addr.add_mid, Nat.zero_add, cell_of (World.alloc_heap_new w _), List.getElem?_toArray]; exact hu)
    (fun u hu => by simp at hu; rcases hu with rfl | rfl | rfl <;> rfl) (by decide) (by unfold maxLen; omega) (by omega) (by simp; omega) _ (by simp)
theorem heap_set_same' {W : World} {H : Nat} {cs : Array Value} {T : TypeId} (h : W.heap[H]? = some (.cells cs T (0, 0))) (t : Nat) (v : Value) : (W.setCell ⟨H, t, none⟩ v).heap[H]? = some (.cells (cs.setIfInBounds t v) T (0, 0)) := by
  unfold World.setCell
  rw [Array.getElem?_modify, if_pos rfl, h]
  simp
theorem owns_base {w : World} {base base' : Nat} {e : TypeId} {size : Nat} {v : Value} {n : Nat} {xs : List Value} (h : w.ownsRow base e size v n xs) (hb : base' ≤ base) : w.ownsRow base' e size v n xs := by
  refine ⟨h.1, ?_⟩
  rcases h.2 with h2 | ⟨g, cap, cur, e1, h3, h4⟩
  · exact .inl h2
  · exact .inr ⟨g, cap, cur, e1, Nat.le_trans hb h3, h4⟩

end Go.Proofs.Ytgndnodahlabiaa
